import PyProof.Rows.All
import Wide.All
import Wide.FinOn
import OpenK.KLine
import KE.KPairTest
import KE.KDictSum
import KE.KDictOf
import KE.KRevSl
import KE.KDictList
import KE.KIsAll
import KE.KPairComp
import KE.KItem
import PyProof.EqAt
import PyProof.EqKinds
import PyProof.TupleCall
import KE.KEqDict
import KE.KSortTup
import KE.KSortAsk
import PySem.Challenge.RW_strongboxes_k24_how_a_step_breaks
set_option Elab.async false
set_option linter.all false
set_option maxRecDepth 100000
set_option maxHeartbeats 4000000
set_option autoImplicit true
set_option relaxedAutoImplicit true
section
open PySem PySem.W PyProof.Rows
abbrev AAA:=@wpAny_bind
abbrev AAB:=@wpAny_pure
abbrev AAC:=@Heap.get?_push_of_some
abbrev AAD:=@Heap.get?_push_size
abbrev AAE:=@Nat.le_of_ble_eq_true
abbrev AAF:=@Nat.le_refl
abbrev AAG:=@List.length_map
abbrev AAH:=@List.length_append
abbrev AAI:=@List.length_cons
abbrev AAJ:=@List.mem_cons
abbrev AAK:=@List.mem_append
abbrev AAL:=@List.mem_singleton
abbrev AAM:=@List.mem_map
abbrev AAN:=@Nat.lt_of_lt_of_le
abbrev AAO:=@decide_eq_false
abbrev AAP:=@decide_eq_true
abbrev AAQ:=@List.mem_cons_self
abbrev AAR:=@List.mem_cons_of_mem
abbrev AAS:=@List.getElem?_append_right
abbrev AAT:=@List.getElem?_append_left
abbrev AAU:=@List.getElem?_eq_some_iff
abbrev AAV:=@List.mem_of_getElem?
abbrev AAW:=@List.getElem?_map
abbrev AAX:=@List.map_cons
abbrev AAY:=@List.map_append
abbrev AAZ:=@Int.emod_lt_of_pos
abbrev AAa:=@List.append_nil
abbrev AAb:=@List.mem_append_right
abbrev AAc:=@List.mem_append_left
abbrev AAd:=@wpAny_call_entry
abbrev AAe:=@Nat.ne_of_lt
abbrev AAf:=@beq_eq_false_iff_ne
abbrev AAg:=@Bool.false_ne_true
abbrev AAh:=@Nat.lt_succ_of_lt
abbrev AAi:=@wpAny_setState_of
abbrev AAj:=@wpAny_mono
abbrev AAk:=@Nat.zero_le
abbrev AAl:=@List.replicate_succ
abbrev AAm:=@List.length_replicate
abbrev AAn:=@List.getElem?_set_ne
abbrev AAo:=@wpAny_holding
abbrev AAp:=@wpAny_setField_rec
abbrev AAq:=@wpAny_newObj_type
abbrev AAr:=@Nat.lt_of_le_of_lt
abbrev AAs:=@Nat.le_trans
abbrev AAt:=@List.getElem?_eq_getElem
abbrev AAu:=@List.getElem?_cons_succ
abbrev AAv:=@List.filterMap_cons_some
abbrev AAw:=@wpAny_of_eq
abbrev AAx:=@wpAny_field
abbrev AAy:=@wpAny_seqItems
abbrev AAz:=@wpAny_attempt
abbrev AA0:=@wpAny_isInstance
abbrev AA1:=@Nat.lt_irrefl
abbrev AA2:=@List.pairwise_cons
end
noncomputable def PySem.W.Fast.tw14859539653790193308:Nat:=0
noncomputable def PySem.W.Fast.tw17371346248352890366:Nat:=0
noncomputable def PySem.W.Fast.tw9598647524337527531:Nat:=0
noncomputable def PySem.W.Fast.tw16915951243884465911:Nat:=0
noncomputable def PySem.W.Fast.tw12629288261954048643:Nat:=0
noncomputable def PySem.W.Fast.tw5124914273718564656:Nat:=0
noncomputable def PySem.W.Fast.tw11489986756849537215:Nat:=0
noncomputable def PySem.W.Fast.tw13125307593954828242:Nat:=0
noncomputable def PySem.W.Fast.tw4520924272381786879:Nat:=0
noncomputable def PySem.W.Fast.tw925619452052216116:Nat:=0
noncomputable def PySem.W.Fast.tw5390138774345576972:Nat:=0
noncomputable def PySem.W.Fast.tw12222484342711121787:Nat:=0
noncomputable def PySem.W.Fast.tw12342300403580017695:Nat:=0
noncomputable def PySem.W.Fast.tw4327124472611515263:Nat:=0
noncomputable def PySem.W.Fast.tw16712834841453668862:Nat:=0
noncomputable def PySem.W.Fast.tw5410560233250234116:Nat:=0
noncomputable def PySem.W.Fast.tw18240067414160263716:Nat:=0
noncomputable def PySem.W.Fast.tw3005693880395365188:Nat:=0
noncomputable def PySem.W.Fast.tw2636569194682585663:Nat:=0
noncomputable def PySem.W.Fast.tw8052791756695162899:Nat:=0
noncomputable def PySem.W.Fast.tw12717087302723532610:Nat:=0
noncomputable def PySem.W.Fast.tw3005884889546715668:Nat:=0
noncomputable def PySem.W.Fast.tw298141812791975671:Nat:=0
noncomputable def PySem.W.Fast.tw14434336592530678288:Nat:=0
noncomputable def PySem.W.Fast.tw11389910384486688944:Nat:=0
noncomputable def PySem.W.Fast.tw12468590464162351433:Nat:=0
noncomputable def PySem.W.Fast.tw4655321878235879713:Nat:=0
noncomputable def PySem.W.Fast.tw3345973139275837671:Nat:=0
noncomputable def PySem.W.Fast.tw16063529310623136139:Nat:=0
noncomputable def PySem.W.Fast.tw11298784884963007965:Nat:=0
noncomputable def PySem.W.Fast.tw6164504852507420307:Nat:=0
noncomputable def PySem.W.Fast.tw15000071218853376962:Nat:=0
noncomputable def PySem.W.Fast.tw13278727983376015803:Nat:=0
noncomputable def PySem.W.Fast.tw16719567194795616644:Nat:=0
noncomputable def PySem.W.Fast.tw5687683969326280323:Nat:=0
noncomputable def PySem.W.Fast.tw1642233290968148246:Nat:=0
noncomputable def PySem.W.Fast.tw18253168877680244156:Nat:=0
noncomputable def PySem.W.Fast.tw123182024473776822:Nat:=0
noncomputable def PySem.W.Fast.tw14426508704114414686:Nat:=0
noncomputable def PySem.W.Fast.tw7793941043803131949:Nat:=0
noncomputable def PySem.W.Fast.tw14426792226169401056:Nat:=0
noncomputable def PySem.W.Fast.tw5518382685921836011:Nat:=0
noncomputable def PySem.W.Fast.tw7668042317914326740:Nat:=0
noncomputable def PySem.W.Fast.tw4113672851189825402:Nat:=0
noncomputable def PySem.W.Fast.tw8964728495756611635:Nat:=0
noncomputable def PySem.W.Fast.tw6564213819162182251:Nat:=0
noncomputable def PySem.W.Fast.tw2225288146258153308:Nat:=0
noncomputable def PySem.W.Fast.tw17136724504095656270:Nat:=0
noncomputable def PySem.W.Fast.tw4658888572390320241:Nat:=0
noncomputable def PySem.W.Fast.tw3390010364192083826:Nat:=0
noncomputable def PySem.W.Fast.tw6689217991988353951:Nat:=0
noncomputable def PySem.W.Fast.tw9942750842726974365:Nat:=0
noncomputable def PySem.W.Fast.tw5916025256871188800:Nat:=0
noncomputable def PySem.W.Fast.tw3137486204717723841:Nat:=0
noncomputable def PySem.W.Fast.tw14879267325947777621:Nat:=0
noncomputable def PySem.W.Fast.tw15884048824273293872:Nat:=0
noncomputable def PySem.W.Fast.tw17788344477243555113:Nat:=0
noncomputable def PySem.W.Fast.tw8780069690302233971:Nat:=0
noncomputable def PySem.W.Fast.tw6326979743496357387:Nat:=0
noncomputable def PySem.W.Fast.tw10542650366734789615:Nat:=0
noncomputable def PySem.W.Fast.tw635585093266415629:Nat:=0
noncomputable def PySem.W.Fast.tw3471627979015106531:Nat:=0
noncomputable def PySem.W.Fast.tw4040615459071157728:Nat:=0
noncomputable def PySem.W.Fast.tw16473251560142870881:Nat:=0
noncomputable def PySem.W.Fast.tw18348547894834415574:Nat:=0
noncomputable def PySem.W.Fast.tw9515488064967978915:Nat:=0
noncomputable def PySem.W.Fast.tw1774071410739179079:Nat:=0
noncomputable def PySem.W.Fast.tw2719121658557567219:Nat:=0
noncomputable def PySem.W.Fast.tw3729446503634757907:Nat:=0
noncomputable def PySem.W.Fast.tw1561701158379974394:Nat:=0
noncomputable def PySem.W.Fast.tw6240761827649376608:Nat:=0
noncomputable def PySem.W.Fast.tw17170981206127987952:Nat:=0
noncomputable def PySem.W.Fast.tw14561287286398824909:Nat:=0
noncomputable def PySem.W.Fast.tw9645940349455824320:Nat:=0
noncomputable def PySem.W.Fast.tw16764926242066676234:Nat:=0
noncomputable def PySem.W.Fast.tw18401454370082911317:Nat:=0
noncomputable def PySem.W.Fast.tw14840176351890397581:Nat:=0
noncomputable def PySem.W.Fast.tw14433031411058497628:Nat:=0
noncomputable def PySem.W.Fast.tw16321223321532719744:Nat:=0
noncomputable def PySem.W.Fast.tw11626932494687005452:Nat:=0
noncomputable def PySem.W.Fast.tw14728497453104764232:Nat:=0
noncomputable def PySem.W.Fast.tw7980419229097471726:Nat:=0
noncomputable def PySem.W.Fast.tw2564140154891021966:Nat:=0
noncomputable def PySem.W.Fast.tw1379984418470750717:Nat:=0
noncomputable def PySem.W.Fast.tw842873444656913322:Nat:=0
noncomputable def PySem.W.Fast.tw10736968674602418789:Nat:=0
noncomputable def PySem.W.Fast.tw2576030722793315343:Nat:=0
noncomputable def PySem.W.Fast.tw6207989227132713217:Nat:=0
noncomputable def PySem.W.Fast.tw9125292669549294723:Nat:=0
noncomputable def PySem.W.Fast.tw2440840022167566199:Nat:=0
noncomputable def PySem.W.Fast.tw5051794895631695278:Nat:=0
noncomputable def PySem.W.Fast.tw6043388846858275520:Nat:=0
noncomputable def PySem.W.Fast.tw4631154362954359281:Nat:=0
noncomputable def PySem.W.Fast.tw573458458680017102:Nat:=0
noncomputable def PySem.W.Fast.tw11244159942202557370:Nat:=0
noncomputable def PySem.W.Fast.tw14811318090976765907:Nat:=0
noncomputable def PySem.W.Fast.tw13820848371478188561:Nat:=0
noncomputable def PySem.W.Fast.tw7905498795151436453:Nat:=0
noncomputable def PySem.W.Fast.tw865884734281966783:Nat:=0
noncomputable def PySem.W.Fast.tw14119228066488295127:Nat:=0
noncomputable def PySem.W.Fast.tw16670926434206059553:Nat:=0
noncomputable def PySem.W.Fast.tw12251459048937871103:Nat:=0
noncomputable def PySem.W.Fast.tw9253981592613389418:Nat:=0
noncomputable def PySem.W.Fast.tw2152832452067321242:Nat:=0
noncomputable def PySem.W.Fast.tw2684682617891933055:Nat:=0
noncomputable def PySem.W.Fast.tw10779004005087176986:Nat:=0
noncomputable def PySem.W.Fast.tw3776973039475951741:Nat:=0
noncomputable def PySem.W.Fast.tw7742560063308997930:Nat:=0
noncomputable def PySem.W.Fast.tw304094081208740802:Nat:=0
noncomputable def PySem.W.Fast.tw1588250457168640660:Nat:=0
noncomputable def PySem.W.Fast.tw2261540661111785656:Nat:=0
noncomputable def PySem.W.Fast.tw4942081790662578954:Nat:=0
noncomputable def PySem.W.Fast.tw6778898921852671199:Nat:=0
noncomputable def PySem.W.Fast.tw460281302182481010:Nat:=0
noncomputable def PySem.W.Fast.tw7603846028363595851:Nat:=0
noncomputable def PySem.W.Fast.tw7449850505332884752:Nat:=0
noncomputable def PySem.W.Fast.tw6204963414866406144:Nat:=0
noncomputable def PySem.W.Fast.tw13302479210098897586:Nat:=0
noncomputable def PySem.W.Fast.tw470741543631940763:Nat:=0
noncomputable def PySem.W.Fast.tw15560003112165329418:Nat:=0
namespace L2
open PySem PySem.Spec PyProof.Rows
noncomputable abbrev Key:=Sum Int Str
noncomputable def J5:Key->Value->Bool
 | .inl k,v=>Value.isInt k v
 | .inr x,v=>Value.isStrOf x v
noncomputable def bq(w:World):Key->Int
 | .inl k=>hashInt k
 | .inr x=>hashStr w x
theorem BT:∀{k:Key} {v:Value},J5 k v=true->(∃i t,k=Sum.inl i/\v=Value.int i t)∨(∃x t,k=Sum.inr x/\v=Value.str x t)
 | .inl i,v,h=>by
  obtain⟨t,e⟩:=Value.isInt_shape (k:=i) (v:=v) h;exact .inl ⟨i,t,rfl,e⟩
 | .inr x,v,h=>by
  obtain⟨t,e⟩:=Value.isStrOf_shape (x:=x) (v:=v) h;exact .inr ⟨x,t,rfl,e⟩
theorem Qm(i:Int)(t:Tok):J5 (.inl i) (.int i t)=true:=by simp[J5,Value.isInt]
theorem Ql(x:Str)(t:Tok):J5 (.inr x) (.str x t)=true:=by simp[J5,Value.isStrOf]
theorem YZ(a b:Int):decide ((Sum.inl a:Key)=Sum.inl b)=(a==b):=by
 by_cases e:a=b
 ·subst e;simp
 ·have h:¬(Sum.inl a:Key)=Sum.inl b:=λq=>e (Sum.inl.inj q);rw[AAO h];exact(AAf.mpr e).symm
theorem YW(a b:Str):decide ((Sum.inr a:Key)=Sum.inr b)=decide (a=b):=by
 by_cases e:a=b
 ·subst e;simp
 ·have h:¬(Sum.inr a:Key)=Sum.inr b:=λq=>e (Sum.inr.inj q);rw[AAO h,AAO e]
theorem YY(a:Int)(b:Str):decide ((Sum.inl a:Key)=Sum.inr b)=false:=AAO (λq=>nomatch q)
theorem YX(a:Str)(b:Int):decide ((Sum.inr a:Key)=Sum.inl b)=false:=AAO (λq=>nomatch q)
noncomputable def BL(prog:Program)(w:World):PySem.KeyKind prog w Key where
 is:=J5
 hash:=bq w
 inj:=λv a b ha hb=>by
  rcases BT ha with ⟨i,t,rfl,rfl⟩|⟨x,t,rfl,rfl⟩
  ·rcases BT hb with ⟨j,u,rfl,e⟩|⟨y,u,rfl,e⟩
   ·injection e with e1 _;rw[e1]
   ·exact nomatch e
  ·rcases BT hb with ⟨j,u,rfl,e⟩|⟨y,u,rfl,e⟩
   ·exact nomatch e
   ·injection e with e1 _;rw[e1]
 byValue:=λk v h=>by
  rcases BT h with ⟨i,t,rfl,rfl⟩|⟨x,t,rfl,rfl⟩<;>rfl
 pyHash:=λhv h=>by
  rcases BT hv with ⟨i,t,rfl,rfl⟩|⟨x,t,rfl,rfl⟩
  ·exact wpAny_pyHash_int h
  ·exact wpAny_pyHash_str h
 eqBool:=λhu hv h=>by
  rcases BT hu with ⟨i,t,rfl,rfl⟩|⟨x,t,rfl,rfl⟩
  ·rcases BT hv with ⟨j,u,rfl,rfl⟩|⟨y,u,rfl,rfl⟩
   ·rw[YZ] at h;exact wpAny_eqBool_int h
   ·rw[YY] at h;exact SeqAt.EqAt.int_str i t y u _ _ _ _ h
  ·rcases BT hv with ⟨j,u,rfl,rfl⟩|⟨y,u,rfl,rfl⟩
   ·rw[YX] at h;exact SeqAt.EqAt.str_int x t j u _ _ _ _ h
   ·rw[YW] at h;exact wpAny_eqBool_str h
 «strs»:=λk x t v h=>by
  rcases BT h with ⟨i,u,rfl,e⟩|⟨y,u,rfl,e⟩
  ·exact nomatch e
  ·injection e with e1 _
   subst e1;cases v<;>rfl
theorem MJ(prog:Program)(w:World)(i:Int)(t:Tok):(BL prog w).is (.inl i) (.int i t)=true:=Qm i t
theorem MI(prog:Program)(w:World)(x:Str)(t:Tok):(BL prog w).is (.inr x) (.str x t)=true:=Ql x t
inductive V where
 |non|bl (b:Bool)|int (i:Int)|str (x:Str)|byt (b:Array UInt8)|flt (b:UInt64)|ref (a:Addr)|ty (n:String)
 deriving DecidableEq
def RelV:V->Value->Prop
 | .non,u=>u=Value.none
 | .bl b,u=>u=Value.bool b
 | .int i,u=>∃t,u=Value.int i t
 | .str x,u=>∃t,u=Value.str x t
 | .byt b,u=>∃t,u=Value.bytes b t
 | .flt b,u=>∃t,u=Value.float b t
 | .ref a,u=>u=Value.ref a
 | .ty n,u=>u=Value.type n
abbrev Vals:List V->List Value->Prop:=Paired RelV
theorem Vals.length(r:Vals xs us):xs.length=us.length:=Paired.length r
theorem Vals.get:∀{xs:List V} {us:List Value} {i:Nat} {x:V},Vals xs us->xs[i]?=some x->∃u,us[i]?=some u/\RelV x u
 |_,_,_,_,.nil,e=>by simp at e
 |_,_,0,_,.cons r _,e=>by simp at e;subst e;exact⟨_,rfl,r⟩
 |_,_,i+1,x,.cons _ t,e=>by
  obtain⟨u,h1,h2⟩:=Vals.get (i:=i) (x:=x) t (by simpa using e);exact⟨u,by simpa using h1,h2⟩
theorem Vals.append:∀{xs ys:List V} {us ws:List Value},Vals xs us->Vals ys ws->Vals (xs++ys) (us++ws)
 |_,_,_,_,.nil,s=>s
 |_,_,_,_,.cons r t,s=>.cons r (Vals.append t s)
theorem Vals.take:∀{xs:List V} {us:List Value} (n:Nat),Vals xs us->Vals (xs.take n) (us.take n)
 |_,_,0,_=>.nil
 |_,_,_+1,.nil=>.nil
 |_,_,n+1,.cons r t=>.cons r (Vals.take n t)
theorem Vals.drop:∀{xs:List V} {us:List Value} (n:Nat),Vals xs us->Vals (xs.drop n) (us.drop n)
 |_,_,0,r=>r
 |_,_,_+1,.nil=>.nil
 |_,_,n+1,.cons _ t=>Vals.drop n t
noncomputable def RelO:Option V->Option Value->Prop
 |some v,some u=>RelV v u
 |none,none=>True
 |_,_=>False
noncomputable def KV{κ:Type}:List (κ×V)->List (κ×Value)->Prop:=Paired λ(p:κ×V) (q:κ×Value)=>p.1=q.1/\RelV p.2 q.2
noncomputable def kV:Key->V
 | .inl i=>.int i
 | .inr x=>.str x
inductive HO where
 |lst (xs:List V)
 |tup (xs:List V)
 |dK (kvs:List (Key×V))|dT (kvs:List (List Key×V))
 |set (S:Int->Bool) (n:Nat)
 |ins (C dx:Addr) (fs:List (Str×V))
 |own (x:Addr)
 |xd (fs:List (Str×V))
 |met (f x:Addr)
 |rng (lo hi:Int)
 |frz (o:Obj) (u:HO)
 |tbl (ps:Array Value)
 |ext (φ:Heap->Prop)
abbrev Hp:=Addr->Option HO
noncomputable def upd(H:Hp)(a:Addr)(o:HO):Hp:=λb=>if b=a then some o else H b
theorem BJ:upd H a o a=some o:=by unfold upd;rw[if_pos rfl]
theorem A5(h:b≠a):upd H a o b=H b:=by unfold upd;rw[if_neg h]
theorem Z8{H:Hp}(h:H a=some o)(h':H b=some u)(d:o≠u):a≠b:=by
 intro e;subst e;rw[h] at h';exact d (Option.some.inj h')
theorem B8{H:Hp}(h:H a=some o)(h':H b=none):a≠b:=by
 intro e;subst e;rw[h] at h';cases h'
section
variable(P:Program)(w:World)
noncomputable def ObjOk(H:Hp)(h:Heap)(a:Addr):HO->Prop
 | .lst xs=>xs.length<=sizeLine/\∃(its:List Value) (n:Nat),Vals xs its/\h.get? a=some { cls:=.type "list",data:=.seq its.toArray n }
 | .tup xs=>xs.length<=sizeLine/\∃its:List Value,Vals xs its/\IsTup h a its.toArray
 | .dK kvs=>kvs.length<=sizeLine/\(a==sysModules)=false/\∃vs,KV kvs vs/\h.DictOf (BL P w) a vs
 | .dT kvs=>kvs.length<=sizeLine/\(a==sysModules)=false/\∃xs:List (List Key×Addr×Value),
   Paired (λ(p:List Key×V) (q:List Key×Addr×Value)=>p.1=q.1/\H q.2.1=some (.tup (p.1.map kV))/\RelV p.2 q.2.2) kvs xs /\
   ∃o es ep,h.get? a=some o/\o.ExactDict/\o.data=.dict es ep/\es.toList=xs.map (entryOfKey (tupleKind (BL P w)))/\(xs.map (·.1)).Nodup
 | .set S n=>h.SetOf (intKind P w) a S n
 | .ins C dx fs=>H dx=some (.own a)/\fs.length<=1000/\dx≠a/\h.get? a=some (PySem.W.instObj C dx) /\
   ∃mA,h.Ns1 dx mA/\(∀f,RelO (fs.lookup f) (mA f))/\PySem.Within mA (fs.map (·.1))
 | .own _=>∃o,h.get? a=some o
 | .xd fs=>∃mA,h.Ns1 a mA/\∀f,RelO (fs.lookup f) (mA f)
 | .rng lo hi=>∃t u v,h.get? a=some { cls:=.type "range",data:=.fields #[.int lo t,.int hi u,.int 1 v] }
 | .frz o u=>h.get? a=some o/\ObjOk H h a u
 | .tbl ps=>h.get? a=some { cls:=.none,data:=.fields ps }
 | .met f x=>h.get? a=some (PySem.W.methodObj (.ref f) (.ref x))
 | .ext φ=>φ h/\(∃o,h.get? a=some o)/\∀h1 h2:Heap,φ h1->(∀o,h1.get? a=some o->h2.get? a=some o)->φ h2
def HOk(H:Hp)(h:Heap):Prop:=∀a o,H a=some o->ObjOk P w H h a o
end
section
variable{P:Program}{w:World}{H H':Hp}{h h':Heap}{a:Addr}{o:HO}
theorem ObjOk.lt(x:ObjOk P w H h a o):a<h.objs.size:=by
 cases o with
 |lst xs=>obtain⟨_,_,_,_,e⟩:=x;exact Heap.lt_size e
 |tup xs=>obtain⟨_,_,_,p⟩:=x;exact p.lt
 |dK kvs=>obtain⟨_,_,_,_,o,_,_,e,_⟩:=x;exact Heap.lt_size e
 |dT kvs=>obtain⟨_,_,_,_,o,_,_,e,_⟩:=x;exact Heap.lt_size e
 |set S n=>obtain⟨o,_,_,_,e,_⟩:=x;exact Heap.lt_size e
 |ins C dx fs=>obtain⟨_,_,_,e,_⟩:=x;exact Heap.lt_size e
 |own y=>obtain⟨_,e⟩:=x;exact Heap.lt_size e
 |xd fs=>obtain⟨_,⟨_,_,_,e,_⟩,_⟩:=x;exact Heap.lt_size e
 |rng lo hi=>obtain⟨_,_,_,e⟩:=x;exact Heap.lt_size e
 |frz ob u=>obtain⟨e,_⟩:=x;exact Heap.lt_size e
 |tbl ps=>exact Heap.lt_size (show h.get? a=some _ from x)
 |met f y=>exact Heap.lt_size (show h.get? a=some _ from x)
 |ext φ=>obtain⟨_,⟨_,e⟩,_⟩:=x;exact Heap.lt_size e
theorem Paired.mapP:∀{l₁:List α} {l₂:List β},Paired F l₁ l₂->(∀a b,F a b->G a b)->Paired G l₁ l₂
 |_,_,.nil,_=>.nil
 |_,_,.cons r t,f=>.cons (f _ _ r) (Paired.mapP t f)
theorem ObjOk.stay(x:ObjOk P w H h a o)(k:∀b u,(b=a∨H b=some (.own a))->h.get? b=some u->h'.get? b=some u)
  (ho:∀b,H b=some (.own a)->H' b=some (.own a)) (ht:∀b xs,H b=some (.tup xs)->H' b=some (.tup xs)):ObjOk P w H' h' a o:=by
 induction o with
 |lst xs=>obtain⟨z,its,n,r,e⟩:=x;exact⟨z,its,n,r,k _ _ (.inl rfl) e⟩
 |tup xs=>obtain⟨z,its,r,ob,e,c⟩:=x;exact⟨z,its,r,ob,k _ _ (.inl rfl) e,c⟩
 |dK kvs=>obtain⟨z,y,vs,r,ob,es,ep,e,c⟩:=x;exact⟨z,y,vs,r,ob,es,ep,k _ _ (.inl rfl) e,c⟩
 |dT kvs=>
  obtain⟨z,y,xs,r,ob,es,ep,e,c⟩:=x;exact⟨z,y,xs,Paired.mapP r λp q z=>⟨z.1,ht _ _ z.2.1,z.2.2⟩,ob,es,ep,k _ _ (.inl rfl) e,c⟩
 |set S n=>obtain⟨ob,es,ep,t,e,c⟩:=x;exact⟨ob,es,ep,t,k _ _ (.inl rfl) e,c⟩
 |ins C dx fs=>
  obtain⟨d,z,ne,e,mA,⟨od,es,ep,e2,c⟩,r⟩:=x;exact⟨ho _ d,z,ne,k _ _ (.inl rfl) e,mA,⟨od,es,ep,k _ _ (.inr d) e2,c⟩,r⟩
 |own y=>obtain⟨ob,e⟩:=x;exact⟨ob,k _ _ (.inl rfl) e⟩
 |xd fs=>obtain⟨mA,⟨od,es,ep,e,c⟩,r⟩:=x;exact⟨mA,⟨od,es,ep,k _ _ (.inl rfl) e,c⟩,r⟩
 |rng lo hi=>obtain⟨t,u,v,e⟩:=x;exact⟨t,u,v,k _ _ (.inl rfl) e⟩
 |frz ob u ih=>obtain⟨e,q⟩:=x;exact⟨k _ _ (.inl rfl) e,ih q⟩
 |tbl ps=>
  have e:h.get? a=some { cls:=.none,data:=.fields ps }:=x;show h'.get? a=some { cls:=.none,data:=.fields ps };exact k a _ (.inl rfl) e
 |met f y=>
  have e:h.get? a=some (PySem.W.methodObj (.ref f) (.ref y)):=x;show h'.get? a=some (PySem.W.methodObj (.ref f) (.ref y));exact k a _ (.inl rfl) e
 |ext φ=>obtain⟨p,⟨o,e⟩,st⟩:=x;exact⟨st _ _ p λo q=>k _ _ (.inl rfl) q,⟨o,k _ _ (.inl rfl) e⟩,st⟩
theorem HOk.lt(x:HOk P w H h)(e:H a=some o):a<h.objs.size:=(x a o e).lt
theorem HOk.fresh(x:HOk P w H h)(e:h.objs.size<=a):H a=none:=by
 cases q:H a with
 |none=>rfl
 |some u=>exact absurd (AAN (x.lt q) e) (AA1 _)
theorem HOk.kept(x:HOk P w H h)(k:∀b u,h.get? b=some u->h'.get? b=some u):HOk P w H h':=λa o e=>
 (x a o e).stay (λb u _ q=>k b u q) (λ_ q=>q) λ_ _ q=>q
theorem HOk.laid(x:HOk P w H h)(k:∀b u,h.get? b=some u->h'.get? b=some u)(hp:h.objs.size<=a)(new:ObjOk P w (upd H a o) h' a o):HOk P w (upd H a o) h':=λb u e=>by
 have hn:=x.fresh hp;by_cases hb:b=a
 ·subst hb;rw[BJ] at e;cases e;exact new
 ·rw[A5 hb] at e;exact(x b u e).stay (λc v _ q=>k c v q) (λc q=>by rw[A5 (B8 q hn)];exact q) λc xs q=>by rw[A5 (B8 q hn)];exact q
end
def Rd(H:Hp)(a:Addr)(u:HO):Prop:=H a=some u∨∃o,H a=some (.frz o u)
theorem Rd.ok(r:Rd H a u)(x:HOk P w H h):ObjOk P w H h a u:=by
 rcases r with r|⟨o,r⟩
 ·exact x a u r
 ·obtain⟨_,q⟩:=x a _ r;exact q
noncomputable def Mut:Option HO->Prop
 |some (.lst _)=>True
 |some (.dK _)=>True
 |some (.dT _)=>True
 |some (.set _ _)=>True
 |some (.ins _ _ _)=>True
 |some (.ext _)=>True
 |_=>False
section
variable{P:Program}{w:World}{H:Hp}{h h':Heap}{x e:Addr}{o':HO}
theorem HOk.write(ok:HOk P w H h)(mu:Mut (H x))(he:e=x∨H e=some (.own x))(k:∀b u,b≠e->h.get? b=some u->h'.get? b=some u)(heo:∃u,h'.get? e=some u)
  (new:ObjOk P w (upd H x o') h' x o'):HOk P w (upd H x o') h':=λb u q=>by
 have nown:∀c y,H c=some (.own y)->c≠x:=λc y r z=>by subst z;rw[r] at mu;exact mu
 have ntup:∀c xs,H c=some (.tup xs)->c≠x:=λc xs r z=>by subst z;rw[r] at mu;exact mu
 by_cases hb:b=x
 ·subst hb;rw[BJ] at q;cases q;exact new
 ·rw[A5 hb] at q;by_cases hbe:b=e
  ·have q':H b=some (.own x):=by
    rcases he with z|z
    ·exact absurd (hbe.trans z) hb
    ·rw[hbe];exact z
   rw[q] at q';cases q';obtain⟨v,hv⟩:=heo;exact⟨v,by rw[hbe];exact hv⟩
  ·refine(ok b u q).stay (λc v hc r=>k c v ?_ r) (λc r=>by rw[A5 (nown c b r)];exact r) λc xs r=>by rw[A5 (ntup c xs r)];exact r
   rcases hc with rfl|hc
   ·exact hbe
   ·rintro rfl;rcases he with z|z
    ·exact nown c b hc z
    ·rw[hc] at z;cases z;exact hb rfl
end
structure Un(fs ex:List Addr)(H H':Hp)(h h':Heap):Prop where
 keep:∀b o,h.get? b=some o->H b=none->b∉fs->b∉ex->h'.get? b=some o
 slot:∀b o,h.get? b=some o->H b=none->b∈fs->b∉ex->∃sl,h'.get? b=some { o with slots:=sl }
 free:∀b o,h.get? b=some o->H b=none->b∉ex->H' b=none
 there:∀b o,h.get? b=some o->b∉ex->∃o',h'.get? b=some o'
 tups:∀b xs,H b=some (.tup xs)->H' b=some (.tup xs)
 frzs:∀b o u,H b=some (.frz o u)->H' b=some (.frz o u)
 tbls:∀b ps,H b=some (.tbl ps)->∃more,H' b=some (.tbl (ps++more))
section
variable{fs ex:List Addr}{H H1:Hp}{h h1 h':Heap}{a x e:Addr}{o:HO}
theorem Un.any(u:Un fs ex H H1 h h1)(q:h.get? b=some ob)(n:H b=none)(hx:b∉ex):∃sl,h1.get? b=some { ob with slots:=sl }:=by
 by_cases hb:b∈fs
 ·exact u.slot b ob q n hb hx
 ·exact⟨ob.slots,u.keep b ob q n hb hx⟩
theorem Un.kept(k:∀b u,h.get? b=some u->h'.get? b=some u):Un fs ex H H h h':=
 ⟨λb ob q _ _ _=>k b ob q,λb ob q _ _ _=>⟨ob.slots,k b ob q⟩,λ_ _ _ n _=>n,λb ob q _=>⟨ob,k b ob q⟩,λ_ _ q=>q,λ_ _ _ q=>q,λ_ ps q=>⟨#[],by rw[q];simp⟩⟩
theorem Un.refl:Un fs ex H H h h:=Un.kept λ_ _ q=>q
theorem Un.laid(k:∀b u,h.get? b=some u->h'.get? b=some u)(hp:h.objs.size<=a)(hn:H a=none):Un fs ex H (upd H a o) h h' where
 keep:=λb u q _ _ _=>k b u q
 slot:=λb u q _ _ _=>⟨u.slots,k b u q⟩
 free:=λb u q n _=>by rw[A5 (AAe (AAN (Heap.lt_size q) hp))];exact n
 there:=λb u q _=>⟨u,k b u q⟩
 tups:=λb xs q=>by rw[A5 (B8 q hn)];exact q
 frzs:=λb u xs q=>by rw[A5 (B8 q hn)];exact q
 tbls:=λb ps q=>⟨#[],by rw[A5 (B8 q hn),q];simp⟩
theorem Un.write(mu:Mut (H x))(he:e=x∨H e=some (.own x))(k:∀b u,b≠e->h.get? b=some u->h'.get? b=some u)(heo:∃u,h'.get? e=some u):Un fs ex H (upd H x o) h h':=by
 have hx:∀b,H b=none->b≠x:=λb n z=>by subst z;rw[n] at mu;exact mu
 have hb:∀b,H b=none->b≠e:=λb n z=>by
  subst z;rcases he with r|r
  ·exact hx b n r
  ·rw[n] at r;cases r
 have hm:∀b u,H b=some u->¬Mut (some u)->b≠x:=λb u q nm z=>by subst z;rw[q] at mu;exact nm mu
 refine⟨λb u q n _ _=>k b u (hb b n) q,λb u q n _ _=>⟨u.slots,k b u (hb b n) q⟩,λb u q n _=>by rw[A5 (hx b n)];exact n,λb u q _=>?_,
  λb xs q=>by rw[A5 (hm b _ q λz=>z)];exact q,λb u xs q=>by rw[A5 (hm b _ q λz=>z)];exact q,λb ps q=>⟨#[],by rw[A5 (hm b _ q λz=>z),q];simp⟩⟩
 by_cases hbe:b=e
 ·subst hbe;exact heo
 ·exact⟨u,k b u hbe q⟩
end
noncomputable def trk(h:Heap)(H:Hp):List Addr:=(List.range h.objs.size).filter λa=>(H a).isSome
noncomputable def LC(h:Heap)(H:Hp):Heap:=PySem.W.hideAll h (trk h H)
theorem Qt(h:Heap)(H:Hp):(LC h H).objs.size=h.objs.size:=PySem.W.hideAll_size _ _
theorem Ts(e:h.get? b=some o)(n:H b=none):(LC h H).get? b=some o:=
 PySem.W.hideAll_get _ e λhm=>by
  have q:(H b).isSome=true:=(List.mem_filter.mp hm).2;rw[n] at q;simp at q
theorem Vr(e:(LC h H).get? b=some o):h.get? b=some o/\H b=none:=by
 have e':h.get? b=some o:=PySem.W.of_hideAll (trk h H) e;refine⟨e',?_⟩;cases q:H b with
 |none=>rfl
 |some x=>
  have hm:b∈trk h H:=List.mem_filter.mpr ⟨List.mem_range.mpr (Heap.lt_size e'),by simp[q]⟩;have z:(LC h H).get? b=none:=PySem.W.hideAll_none (trk h H) hm;rw[z] at e;cases e
structure Mod(K:PySem.W.Frag)(mg:Str->Option Value)(base:Heap):Prop where
 kin:K.In base
 glob:base.Ns mainGlobals mg
 blt:∃mb,base.Ns builtinsNs mb/\∀x:Str,x ≠ "__name__" -> mb x=bootBuiltins x
 nolimit:base.NoLimit
set_option genInjectivity false in
structure Cx where
 prog:Program
 w:World
 K:PySem.W.Frag
 mg:Str->Option Value
 base:Heap
 A:Around
 N:List Str
 s₀:Shared
 H₀:Hp
 env:Env
 outer:List Env
 stack:List Env
 ex:List Addr
 fn:Str->Bool
 calm:Bool
 pn:List (Addr×Obj)
 xe:Value->Shared->Prop
def frs(l:List Env):List Addr:=l.filterMap (·.frame)
abbrev Cx.fs(X:Cx):List Addr:=frs X.outer
def Vis(sc:Scope)(x:Str):Prop:=sc.names.lookup x=some .local∨sc.names.lookup x=some .cell∨sc.names.lookup x=some .free
def Loc(sc:Scope)(x:Str):Prop:=sc.names.lookup x=some .local∨sc.names.lookup x=some .cell
def bw(env:Env)(h:Heap)(m:Str->Option Value)(x:Str)(u:Value):Prop:=
 (env.kindOf x=some .local/\m x=some u)∨((env.kindOf x=some .cell∨env.kindOf x=some .free)/\∃c,env.cells.lookup x=some c/\h.IsCell c (some u))
structure Cx.Ok(X:Cx):Prop where
 mod:Mod X.K X.mg X.base
 kind:X.env.scope.kind=.function
 glob:X.env.globals=mainGlobals
 blt:X.env.builtins=builtinsNs
 above:X.s₀.heap.objs.size<=X.env.locals
 inj:∀x y c,X.env.cells.lookup x=some c->X.env.cells.lookup y=some c->x=y
 has:∀x,(X.env.kindOf x=some .cell∨X.env.kindOf x=some .free)->∃c,X.env.cells.lookup x=some c
 cab:∀x c,X.fn x=true->X.env.cells.lookup x=some c->X.s₀.heap.objs.size<=c
 hd:X.calm=true->X.A.handled=none
 frames:X.A.frames=some X.stack
 stk:X.stack=X.outer∨(X.stack=X.env::X.outer/\X.env.frame=some X.env.locals)
 exf:∀b∈X.ex,b≠X.env.locals/\∀x c,X.env.cells.lookup x=some c->c≠b
 bs:∀b o,X.base.get? b=some o->X.s₀.heap.get? b=some o/\X.H₀ b=none
 bsz:X.base.objs.size<=X.s₀.heap.objs.size
 noex:∀b o,X.base.get? b=some o->b∉X.ex
 exfs:∀b∈X.ex,b∉X.fs
 funs:X.s₀.heap.FunFrames X.base X.outer
 frf:∀b∈X.fs,X.H₀ b=none
structure Inv(X:Cx)(pins:List (Addr×Obj))(σ:List (Option V))(H:Hp)(s:Shared):Prop where
 ok:X.Ok
 os:s.os=X.s₀.os
 bare:AllBare s.gens
 base:Un X.fs X.ex X.H₀ H X.s₀.heap s.heap
 loc:∃m,s.heap.Ns X.env.locals m/\∀(i:Nat) (x:Str) (v:V),X.N[i]?=some x->σ[i]?=some (some v)->Vis X.env.scope x->∃u,RelV v u/\bw X.env s.heap m x u
 cell:∀x c,X.env.cells.lookup x=some c->∃v,s.heap.IsCell c v
 free:H X.env.locals=none
 freeC:∀x c,X.env.cells.lookup x=some c->H c=none
 pin:∀p∈X.pn++pins,s.heap.get? p.1=some p.2/\H p.1=none/\p.1≠X.env.locals/\p.1∉X.fs/\∀v,p.2.data≠.cell v
 hok:HOk X.prog X.w H s.heap
 len:σ.length=X.N.length
section
variable{X:Cx}{pins:List (Addr×Obj)}{σ:List (Option V)}{H H':Hp}{s:Shared}{h':Heap}
theorem Cx.Ok.nofr(ok:X.Ok)(e:X.base.get? b=some o):b∉X.fs:=λhb=>by
 have:=(ok.funs.mem hb).1;rw[e] at this;cases this
theorem Inv.bs(I:Inv X pins σ H s):∀b o,X.base.get? b=some o->s.heap.get? b=some o/\H b=none:=λb o e=>
 ⟨I.base.keep b o (I.ok.bs b o e).1 (I.ok.bs b o e).2 (I.ok.nofr e) (I.ok.noex b o e),I.base.free b o (I.ok.bs b o e).1 (I.ok.bs b o e).2 (I.ok.noex b o e)⟩
theorem Inv.bk(I:Inv X pins σ H s):∀b o,X.base.get? b=some o->s.heap.get? b=some o:=λb o e=>(I.bs b o e).1
theorem Inv.mod(I:Inv X pins σ H s):Mod X.K X.mg X.base:=I.ok.mod
theorem Inv.kIn(I:Inv X pins σ H s):X.K.In s.heap:=I.ok.mod.kin.keeps I.bk
theorem Inv.lt(I:Inv X pins σ H s):X.env.locals<s.heap.objs.size:=let ⟨_,hn,_⟩:=I.loc;hn.lt
theorem Inv.sz(I:Inv X pins σ H s):X.s₀.heap.objs.size<=s.heap.objs.size:=AAs I.ok.above (Nat.le_of_lt I.lt)
theorem Inv.nofs(I:Inv X pins σ H s)(h:s.heap.objs.size<=a):a∉X.fs:=λhb=>by
 obtain⟨_,o,ho,_⟩:=I.ok.funs.mem hb;exact absurd (AAN (Heap.lt_size ho) (AAs I.sz h)) (AA1 _)
theorem Inv.cne(I:Inv X pins σ H s):∀x c,X.env.cells.lookup x=some c->c≠X.env.locals:=λx c e z=>by
 obtain⟨v,o,ho,hd⟩:=I.cell x c e;obtain⟨m,⟨o',es,ep,ho',hd',_⟩,_⟩:=I.loc;rw[z,ho'] at ho;cases ho;rw[hd'] at hd;cases hd
theorem Inv.funs(I:Inv X pins σ H s):s.heap.FunFrames X.base X.outer:=by
 have all:∀(l:List Env),(∀b∈frs l,b∈X.fs)->X.s₀.heap.FunFrames X.base l->s.heap.FunFrames X.base l:=by
  intro l
  induction l with
  |nil=>intro _ _;trivial
  |cons env r ih=>
   intro hs hl;obtain⟨hk,⟨L,o,hf,hn,ho,hd⟩,hr⟩:=hl;have hL:L∈X.fs:=hs L (by unfold frs;rw[List.filterMap_cons,hf];exact AAQ);obtain⟨sl,e⟩:=I.base.slot L o ho (I.ok.frf L hL) hL λz=>I.ok.exfs L z hL;exact⟨hk,⟨L,_,hf,hn,e,hd⟩,ih (λb hb=>hs b (by unfold frs;rw[List.filterMap_cons,hf];exact AAR _ hb)) hr⟩
 exact all X.outer (λ_ hb=>hb) I.ok.funs
theorem Inv.stack(I:Inv X pins σ H s):s.heap.FunFrames X.base X.stack:=by
 rcases I.ok.stk with e|⟨e,hf⟩
 ·rw[e];exact I.funs
 ·rw[e];obtain⟨m,hn,_⟩:=I.loc;refine .cons (by rw[I.ok.kind];decide) hf hn ?_ I.funs;exact Heap.get?_none_of_le (AAs I.ok.bsz I.ok.above)
theorem Inv.stkSub(I:Inv X pins σ H s):∀b∈frs X.stack,b∈X.env.locals::X.fs:=λb hb=>by
 rcases I.ok.stk with e|⟨e,hf⟩
 ·rw[e] at hb;exact AAR _ hb
 ·rw[e] at hb;unfold frs at hb;rw[List.filterMap_cons,hf] at hb;exact hb
theorem Inv.stkFree(I:Inv X pins σ H s):∀b∈frs X.stack,H b=none:=λb hb=>by
 rcases AAJ.mp (I.stkSub b hb) with e|hb
 ·rw[e];exact I.free
 ·obtain⟨_,o,ho,_⟩:=I.ok.funs.mem hb;exact I.base.free b o ho (I.ok.frf b hb) λz=>I.ok.exfs b z hb
theorem Inv.step{g':Array GenState}{t':Nat}{ch:List Addr}(I:Inv X pins σ H s)
  (hch:∀b∈ch,(b∈X.ex∨X.s₀.heap.objs.size<=b)/\b≠X.env.locals/\(∀x c,X.env.cells.lookup x=some c->c≠b)/\∀p∈X.pn++pins,p.1≠b)
  (keep:∀b o,b≠X.env.locals->b∉X.fs->b∉ch->s.heap.get? b=some o->H b=none->h'.get? b=some o)
  (slot:∀b o,b≠X.env.locals->b∈X.fs->b∉ch->s.heap.get? b=some o->H b=none->∃sl,h'.get? b=some { o with slots:=sl }) (free:∀b o,b∉ch->s.heap.get? b=some o->H b=none->H' b=none)
  (there:∀b o,b∉ch->s.heap.get? b=some o->∃o',h'.get? b=some o')
  (tups:∀b xs,H b=some (.tup xs)->H' b=some (.tup xs)) (frzs:∀b o u,H b=some (.frz o u)->H' b=some (.frz o u)) (tbls:∀b ps,H b=some (.tbl ps)->∃more,H' b=some (.tbl (ps++more)))
  (ns:∀m,s.heap.Ns X.env.locals m->h'.Ns X.env.locals m) (hok:HOk X.prog X.w H' h') (hg:AllBare g') :
  Inv X pins σ H' { s with heap:=h',gens:=g',drawn:=d',toks:=t' }:=by
 have neL:∀b o,X.s₀.heap.get? b=some o->b≠X.env.locals:=λb o e=>AAe (AAN (Heap.lt_size e) I.ok.above);have neC:∀b o,X.s₀.heap.get? b=some o->b∉X.ex->b∉ch:=λb o e hx hb=>by
  rcases(hch b hb).1 with z|z
  ·exact hx z
  ·exact absurd (AAN (Heap.lt_size e) z) (AA1 _)
 have cellK:∀x c,X.env.cells.lookup x=some c->∀v,s.heap.IsCell c v->h'.IsCell c v:=λx c e v ⟨o,ho,hd⟩=>by
  have nch:c∉ch:=λz=>(hch c z).2.2.1 x c e rfl;by_cases hc:c∈X.fs
  ·obtain⟨sl,q⟩:=slot c o (I.cne x c e) hc nch ho (I.freeC x c e);exact⟨_,q,hd⟩
  ·exact⟨o,keep c o (I.cne x c e) hc nch ho (I.freeC x c e),hd⟩
 refine⟨I.ok,I.os,hg,⟨λb o e n hb hx=>?_,λb o e n hb hx=>?_,λb o e n hx=>?_,λb o e hx=>?_,λb xs e=>tups b xs (I.base.tups b xs e),λb o xs e=>frzs b o xs (I.base.frzs b o xs e),λb ps e=>?_⟩,?_,λx c e=>?_,?_,λx c e=>?_,λp hp=>?_,hok,I.len⟩
 ·exact keep b o (neL b o e) hb (neC b o e hx) (I.base.keep b o e n hb hx) (I.base.free b o e n hx)
 ·obtain⟨sl,e1⟩:=I.base.slot b o e n hb hx;obtain⟨sl',e2⟩:=slot b _ (neL b o e) hb (neC b o e hx) e1 (I.base.free b o e n hx);exact⟨sl',e2⟩
 ·obtain⟨o',e1⟩:=I.base.there b o e hx;exact free b o' (neC b o e hx) e1 (I.base.free b o e n hx)
 ·obtain⟨o',e1⟩:=I.base.there b o e hx;exact there b o' (neC b o e hx) e1
 ·obtain⟨m1,e1⟩:=I.base.tbls b ps e;obtain⟨m2,e2⟩:=tbls b _ e1;exact⟨m1++m2,by rw[e2,Array.append_assoc]⟩
 ·obtain⟨m,hn,hl⟩:=I.loc;refine⟨m,ns m hn,λi x v e1 e2 e3=>?_⟩;obtain⟨u,r,l⟩:=hl i x v e1 e2 e3;refine⟨u,r,?_⟩;rcases l with l|⟨k,c,e,z⟩
  ·exact .inl l
  ·exact .inr ⟨k,c,e,cellK x c e _ z⟩
 ·obtain⟨v,z⟩:=I.cell x c e;exact⟨v,cellK x c e v z⟩
 ·obtain⟨m,⟨o,_,_,ho,_⟩,_⟩:=I.loc;exact free _ o (λz=>(hch _ z).2.1 rfl) ho I.free
 ·obtain⟨v,o,ho,hd⟩:=I.cell x c e;exact free c o (λz=>(hch c z).2.2.1 x c e rfl) ho (I.freeC x c e)
 ·obtain⟨e,n,ne,nf,d⟩:=I.pin p hp;have nch:p.1∉ch:=λz=>(hch p.1 z).2.2.2 p hp rfl;exact⟨keep p.1 p.2 ne nf nch e n,free p.1 p.2 nch e n,ne,nf,d⟩
theorem Inv.un{t':Nat}(I:Inv X pins σ H s)(u:Un X.fs [] H H' s.heap h')(hok:HOk X.prog X.w H' h'):Inv X pins σ H' { s with heap:=h',toks:=t' }:=by
 obtain⟨m,⟨o,es,ep,ho,r⟩,_⟩:=id I.loc;obtain⟨sl,hL⟩:=u.any ho I.free (by simp);exact I.step (g':=s.gens) (d':=s.drawn) (ch:=[]) (λ_ z=>nomatch z) (λb o _ hb _ e n=>u.keep b o e n hb (by simp)) (λb o _ hb _ e n=>u.slot b o e n hb (by simp)) (λb o _ e n=>u.free b o e n (by simp)) (λb o _ e=>u.there b o e (by simp)) u.tups u.frzs u.tbls (λm' hm=>by
  obtain⟨o',es',ep',ho',r'⟩:=hm;rw[ho] at ho';cases ho';exact⟨_,es',ep',hL,r'⟩) hok I.bare
theorem Inv.call{g':Array GenState}{t':Nat}{ch:List Addr}(I:Inv X pins σ H s)(u:Un (frs X.stack) ch H H' s.heap h')(hok:HOk X.prog X.w H' h')(hg:AllBare g')
  (hch:∀b∈ch,(b∈X.ex∨X.s₀.heap.objs.size<=b)/\b≠X.env.locals/\(∀x c,X.env.cells.lookup x=some c->c≠b)/\∀p∈X.pn++pins,p.1≠b) :
  Inv X pins σ H' { s with heap:=h',gens:=g',drawn:=d',toks:=t' }:=by
 obtain⟨m,⟨o,es,ep,ho,r⟩,_⟩:=id I.loc;obtain⟨sl,hL⟩:=u.any ho I.free λz=>(hch _ z).2.1 rfl;exact I.step (ch:=ch) hch (λb o hL hb hc e n=>u.keep b o e n (λz=>(AAJ.mp (I.stkSub b z)).elim hL hb) hc) (λb o _ _ hc e n=>u.any e n hc) (λb o hc e n=>u.free b o e n hc) (λb o hc e=>u.there b o e hc) u.tups u.frzs u.tbls (λm' hm=>by
  obtain⟨o',es',ep',ho',r'⟩:=hm;rw[ho] at ho';cases ho';exact⟨_,es',ep',hL,r'⟩) hok hg
theorem Inv.turned{t':Nat}{it:Addr}(I:Inv X pins σ H s)(k:∀b o,b≠it->s.heap.get? b=some o->h'.get? b=some o)(hn:H it=none)(hL:it≠X.env.locals)
  (h1:it∈X.ex∨X.s₀.heap.objs.size<=it) (h2:∀x c,X.env.cells.lookup x=some c->c≠it) (h3:∀p∈X.pn++pins,p.1≠it):Inv X pins σ H { s with heap:=h',toks:=t' }:=by
 have nit:∀b u,H b=some u->b≠it:=λb u e z=>by rw[z,hn] at e;cases e
 refine I.step (g':=s.gens) (d':=s.drawn) (ch:=[it]) (λb hb=>?_) (λb o _ _ hc e _=>k b o (λz=>hc (by simp[z])) e) (λb o _ _ hc e _=>⟨o.slots,k b o (λz=>hc (by simp[z])) e⟩) (λ_ _ _ _ n=>n)
  (λb o hc e=>⟨o,k b o (λz=>hc (by simp[z])) e⟩) (λ_ _ e=>e) (λ_ _ _ e=>e) (λb ps e=>⟨#[],by rw[e];simp⟩) (λm hm=>?_) (λb u e=>?_) I.bare
 ·have e:b=it:=by simpa using hb
  subst e;exact⟨h1,hL,h2,h3⟩
 ·obtain⟨o,es,ep,ho,r⟩:=hm;exact⟨o,es,ep,k _ o (Ne.symm hL) ho,r⟩
 ·refine(I.hok b u e).stay (λc v hc q=>k c v ?_ q) (λ_ q=>q) λ_ _ q=>q;rcases hc with z|z
  ·rw[z];exact nit b u e
  ·exact nit c _ z
theorem Inv.tok(I:Inv X pins σ H s)(t:Nat):Inv X pins σ H { s with toks:=t }:=I.un (h':=s.heap) (t':=t) Un.refl I.hok
theorem Inv.kept(I:Inv X pins σ H s)(k:∀b u,s.heap.get? b=some u->h'.get? b=some u):Inv X pins σ H { s with heap:=h',toks:=t' }:=I.un (Un.kept k) (I.hok.kept k)
theorem Inv.laid(I:Inv X pins σ H s)(k:∀b u,s.heap.get? b=some u->h'.get? b=some u)(hp:s.heap.objs.size<=a)(new:ObjOk X.prog X.w (upd H a o) h' a o):
  Inv X pins σ (upd H a o) { s with heap:=h',toks:=t' }:=I.un (Un.laid k hp (I.hok.fresh hp)) (I.hok.laid k hp new)
theorem Inv.write(I:Inv X pins σ H s)(mu:Mut (H x))(he:e=x∨H e=some (.own x))(k:∀b u,b≠e->s.heap.get? b=some u->h'.get? b=some u)(heo:∃u,h'.get? e=some u)
  (new:ObjOk X.prog X.w (upd H x o) h' x o):Inv X pins σ (upd H x o) { s with heap:=h',toks:=t' }:=I.un (Un.write mu he k heo) (I.hok.write mu he k heo new)
theorem Inv.weak(I:Inv X pins σ H s)(hl:σ'.length=σ.length)(w:∀(i:Nat) v,σ'[i]?=some (some v)->σ[i]?=some (some v)):Inv X pins σ' H s:=
 ⟨I.ok,I.os,I.bare,I.base,let ⟨m,hn,hl'⟩:=I.loc;⟨m,hn,λi x v e1 e2 e3=>hl' i x v e1 (w i v e2) e3⟩,I.cell,I.free,I.freeC,I.pin,I.hok,hl.trans I.len⟩
theorem Inv.pins_of(I:Inv X pins σ H s)(h:∀p∈pins',s.heap.get? p.1=some p.2/\H p.1=none/\p.1≠X.env.locals/\p.1∉X.fs/\∀v,p.2.data≠.cell v):Inv X pins' σ H s:=
 ⟨I.ok,I.os,I.bare,I.base,I.loc,I.cell,I.free,I.freeC,λp hp=>(AAK.mp hp).elim (λz=>I.pin p (AAc _ z)) (h p),I.hok,I.len⟩
theorem MH{N:List Str}(hN:N.Nodup){i j:Nat}{x:Str}(a:N[i]?=some x)(b:N[j]?=some x):i=j:=by
 obtain⟨h1,e1⟩:=AAU.mp a;obtain⟨h2,e2⟩:=AAU.mp b;exact(List.getElem_inj hN).mp (e1.trans e2.symm)
theorem Gb{M:Model}{A:Around}{E:Value->Shared->Prop}{i:Nat}{x:Str}{u:Value}{Q:Unit->Shared->Prop}(I:Inv X pins σ H s)(hN:X.N.Nodup)(hi:X.N[i]?=some x)(hx:Loc X.env.scope x)(r:RelV v u)
  (h:∀s',Inv X pins (σ.set i (some v)) H s'->(∃a,Heap.SameBut a s.heap s'.heap/\(a=X.env.locals∨X.env.cells.lookup x=some a))->Q () s') (hf:X.fn x=true∨X.env.scope.names.lookup x=some .local:=by first|exact .inl rfl|exact .inr rfl|assumption):wpAny M A (storeName X.env x u) Q E s:=by
 obtain⟨m,hn,hl⟩:=id I.loc;have hcls:(X.env.scope.kind==.class||(X.env.scope.kind==.module&&X.env.locals != X.env.globals))=false:=by rw[I.ok.kind];rfl
 have hiσ:i<σ.length:=by rw[I.len];exact(AAU.mp hi).1
 have cne:=I.cne;have tracked:∀{a:Addr} {h':Heap},(∃o,s.heap.get? a=some o/\H a=none)->Heap.SameBut a s.heap h'->HOk X.prog X.w H h':=λ{a h'} ha hs b ob e=>by
  obtain⟨_,_,hfree⟩:=ha;refine(I.hok b ob e).stay (λc w' hc q=>(hs.2 c ?_).trans q) (λ_ q=>q) λ_ _ q=>q;rintro rfl;rcases hc with rfl|hc
  ·rw[hfree] at e;cases e
  ·rw[hfree] at hc;cases hc
 rcases hx with hk|hk
 ·refine wpAny_storeName_local hk hn (λh' hn' hs=>?_) hcls;obtain⟨oL,_,_,hoL,_⟩:=id hn;refine h _ ⟨I.ok,I.os,I.bare,⟨λb o e n hb hx=>?_,λb o e n hb hx=>?_,I.base.free,λb o e hx=>?_,I.base.tups,I.base.frzs,I.base.tbls⟩,⟨_,hn',λj y v' e1 e2 e3=>?_⟩,λy c e=>?_,I.free,I.freeC,λp hp=>?_,tracked ⟨oL,hoL,I.free⟩ hs,by simpa using I.len⟩ ⟨_,hs,.inl rfl⟩
  ·exact(hs.2 b (AAe (AAN (Heap.lt_size e) I.ok.above))).trans (I.base.keep b o e n hb hx)
  ·obtain⟨sl,e1⟩:=I.base.slot b o e n hb hx;exact⟨sl,(hs.2 b (AAe (AAN (Heap.lt_size e) I.ok.above))).trans e1⟩
  ·obtain⟨o',e1⟩:=I.base.there b o e hx;exact⟨o',(hs.2 b (AAe (AAN (Heap.lt_size e) I.ok.above))).trans e1⟩
  ·by_cases hj:j=i
   ·subst hj;rw[hi] at e1;cases e1;rw[List.getElem?_set_self hiσ] at e2;cases e2;exact⟨u,r,.inl ⟨hk,by simp⟩⟩
   ·rw[AAn (Ne.symm hj)] at e2;obtain⟨u',r',q⟩:=hl j y v' e1 e2 e3;refine⟨u',r',?_⟩;rcases q with ⟨k,e⟩|⟨k,c,e,z⟩
    ·refine .inl ⟨k,?_⟩;have:y≠x:=λe=>hj (MH hN e1 (e ▸ hi));simp[this,e]
    ·exact .inr ⟨k,c,e,z.sameBut hs (cne y c e)⟩
  ·obtain⟨w',z⟩:=I.cell y c e;exact⟨w',z.sameBut hs (cne y c e)⟩
  ·obtain⟨e,n,ne,nf,d⟩:=I.pin p hp;exact⟨(hs.2 p.1 ne).trans e,n,ne,nf,d⟩
 ·have hfn:X.fn x=true:=by
   rcases hf with z|z
   ·exact z
   ·rw[z] at hk;cases hk
  obtain⟨c,hc⟩:=I.ok.has x (.inl hk);obtain⟨w',z⟩:=I.cell x c hc;refine wpAny_storeName_cell I.ok.kind hk hc z (λh' hc' hs=>?_);obtain⟨oc,hoc,hocd⟩:=id z;refine h { s with heap:=h' } ⟨I.ok,I.os,I.bare,⟨λb o e n hb hx=>?_,λb o e n hb hx=>?_,I.base.free,λb o e hx=>?_,I.base.tups,I.base.frzs,I.base.tbls⟩,⟨m,hn.sameBut hs (Ne.symm (cne x c hc)),λj y v' e1 e2 e3=>?_⟩,λy c' e=>?_,I.free,I.freeC,λp hp=>?_,tracked ⟨oc,hoc,I.freeC x c hc⟩ hs,by simpa using I.len⟩ ⟨c,hs,.inr hc⟩
  ·exact(hs.2 b (AAe (AAN (Heap.lt_size e) (I.ok.cab x c hfn hc)))).trans (I.base.keep b o e n hb hx)
  ·obtain⟨sl,e1⟩:=I.base.slot b o e n hb hx;exact⟨sl,(hs.2 b (AAe (AAN (Heap.lt_size e) (I.ok.cab x c hfn hc)))).trans e1⟩
  ·obtain⟨o',e1⟩:=I.base.there b o e hx;exact⟨o',(hs.2 b (AAe (AAN (Heap.lt_size e) (I.ok.cab x c hfn hc)))).trans e1⟩
  ·by_cases hj:j=i
   ·subst hj;rw[hi] at e1;cases e1;rw[List.getElem?_set_self hiσ] at e2;cases e2;exact⟨u,r,.inr ⟨.inl hk,c,hc,hc'⟩⟩
   ·rw[AAn (Ne.symm hj)] at e2;obtain⟨u',r',q⟩:=hl j y v' e1 e2 e3;refine⟨u',r',?_⟩;rcases q with q|⟨k,c',e,z'⟩
    ·exact .inl q
    ·refine .inr ⟨k,c',e,z'.sameBut hs ?_⟩;rintro rfl;exact hj (MH hN e1 (I.ok.inj _ _ _ e hc ▸ hi))
  ·by_cases hcc:c'=c
   ·subst hcc;exact⟨_,hc'⟩
   ·obtain⟨w2,z2⟩:=I.cell y c' e;exact⟨w2,z2.sameBut hs hcc⟩
  ·obtain⟨e,n,ne,nf,d⟩:=I.pin p hp;refine⟨(hs.2 p.1 ?_).trans e,n,ne,nf,d⟩;intro q;rw[q,hoc] at e;have q':oc=p.2:=Option.some.inj e;exact d w' (by rw[←q'];exact hocd)
theorem Ho(I:Inv X pins σ H s)(hN:X.N.Nodup)(hi:X.N[i]?=some x)(hx:Loc X.env.scope x)(r:RelV v u)
  (h:∀s',Inv X pins (σ.set i (some v)) H s'->Q () s') (hf:X.fn x=true∨X.env.scope.names.lookup x=some .local:=by first|exact .inl rfl|exact .inr rfl|assumption):wpAny M A (storeName X.env x u) Q E s:=
 Gb I hN hi hx r (λs' I' _=>h s' I') hf
theorem Inv.call'(I:Inv X pins σ H s)(ho:s'.os=s.os)(u:Un (frs X.stack) ch H H' s.heap s'.heap)(hok:HOk X.prog X.w H' s'.heap)(hg:AllBare s'.gens)
  (hch:∀b∈ch,(b∈X.ex∨X.s₀.heap.objs.size<=b)/\b≠X.env.locals/\(∀x c,X.env.cells.lookup x=some c->c≠b)/\∀p∈X.pn++pins,p.1≠b):Inv X pins σ H' s':=by
 obtain⟨h',g',d',t',o'⟩:=s';have e:o'=s.os:=ho;subst e;exact I.call (g':=g') (t':=t') (d':=d') u hok hg hch
end
noncomputable abbrev XK:=Value->Option Addr->Hp->Prop
noncomputable abbrev St:=List (Option V)
noncomputable abbrev VK:=V->Hp->Prop
noncomputable abbrev TE:=St->Hp->VK->Prop
noncomputable abbrev TT:=St->Hp->(Bool->Hp->Prop)->Prop
noncomputable abbrev TA:=St->Hp->(List V->Hp->Prop)->Prop
set_option genInjectivity false in
structure Uc where
 nx:St->Hp->Prop
 rt:VK
 bk:St->Hp->Prop:=λ_ _=>False
 ct:St->Hp->Prop:=λ_ _=>False
noncomputable abbrev TS:=Uc->St->Hp->Prop
def EP(X:Cx)(pins:List (Addr×Obj))(σ:St)(Q:VK)(u:Value)(s':Shared):Prop:=∃v H',Inv X pins σ H' s'/\RelV v u/\Q v H'
def TP(X:Cx)(pins:List (Addr×Obj))(σ:St)(Q:Bool->Hp->Prop)(b:Bool)(s':Shared):Prop:=∃H',Inv X pins σ H' s'/\Q b H'
def AP(X:Cx)(pins:List (Addr×Obj))(σ:St)(Q:List V->Hp->Prop)(us:List Value)(s':Shared):Prop:=∃vs H',Inv X pins σ H' s'/\Vals vs us/\Q vs H'
def SP(X:Cx)(pins:List (Addr×Obj))(D:Uc)(f:Flow)(s':Shared):Prop:=
 match f with
 | .next=>∃σ' H',Inv X pins σ' H' s'/\D.nx σ' H'
 | .brk=>∃σ' H',Inv X pins σ' H' s'/\D.bk σ' H'
 | .cont=>∃σ' H',Inv X pins σ' H' s'/\D.ct σ' H'
 | .ret u=>∃v σ' H',Inv X pins σ' H' s'/\RelV v u/\D.rt v H'
def PE(X:Cx)(e:Expr)(t:TE):Prop:=
 ∀(pins:List (Addr×Obj)) (s:Shared) (σ:St) (H:Hp) (Q:VK),Inv X pins σ H s->t σ H Q->wpAny (model X.prog X.w) X.A (eval e X.env) (EP X pins σ Q) X.xe s
def PT(X:Cx)(e:Expr)(t:TT):Prop:=
 ∀(pins:List (Addr×Obj)) (s:Shared) (σ:St) (H:Hp) (Q:Bool->Hp->Prop),Inv X pins σ H s->t σ H Q->wpAny (model X.prog X.w) X.A (isTrue e X.env (eval e X.env)) (TP X pins σ Q) X.xe s
def PW(X:Cx)(e:Expr)(t:TT):Prop:=
 ∀(whole:Sem Value) (pins:List (Addr×Obj)) (s:Shared) (σ:St) (H:Hp) (Q:Bool->Hp->Prop),Inv X pins σ H s->t σ H Q->wpAny (model X.prog X.w) X.A (isTrue e X.env whole) (TP X pins σ Q) X.xe s
theorem PW.pt(h:PW X e t):PT X e t:=h _
def PA(X:Cx)(es:List Expr)(t:TA):Prop:=
 ∀(pos:Pos) (pins:List (Addr×Obj)) (s:Shared) (σ:St) (H:Hp) (Q:List V->Hp->Prop),Inv X pins σ H s->t σ H Q->wpAny (model X.prog X.w) X.A (spliced (backTo pos (starEach es X.env))) (AP X pins σ Q) X.xe s
def PS(X:Cx)(st:Stmt)(t:TS):Prop:=
 ∀(pins:List (Addr×Obj)) (s:Shared) (σ:St) (H:Hp) (D:Uc),Inv X pins σ H s->t D σ H->wpAny (model X.prog X.w) X.A (exec st X.env) (SP X pins D) X.xe s
def PSs(X:Cx)(st:List Stmt)(t:TS):Prop:=
 ∀(pins:List (Addr×Obj)) (s:Shared) (σ:St) (H:Hp) (D:Uc),Inv X pins σ H s->t D σ H->wpAny (model X.prog X.w) X.A (execs st X.env) (SP X pins D) X.xe s
theorem thn(h:wpAny M A t Q E s)(hQ:∀a s,Q a s->Q' a s):wpAny M A t Q' E s:=AAj h hQ λ_ _ x=>x
section
variable{X:Cx}
noncomputable def ae(i:Nat):TE:=λσ H Q=>∃v,σ[i]?=some (some v)/\Q v H
noncomputable def tC(v:V):TE:=λ_ H Q=>Q v H
theorem X4(hN:X.N[i]?=some x)(hv:Vis X.env.scope x)(hd:(x==("__debug__" : Str))=false:=by decide)(hcd:(x==("__classdict__" : Str))=false:=by decide):PE X (.Name x pos) (ae i):=by
 intro pins s σ H Q I h;obtain⟨v,e,h⟩:=h;obtain⟨m,hn,hl⟩:=I.loc;obtain⟨u,r,l⟩:=hl i x v hN e hv;have fin:EP X pins σ Q u s:=⟨v,H,I,r,h⟩;rcases l with ⟨hk,hm⟩|⟨hk,c,hc,hcell⟩
 ·exact wpAny_Name (wpAny_loadName_local I.ok.kind hk hn hm fin) hd
 ·rcases hk with hk|hk
  ·exact wpAny_Name (wpAny_loadName_cell I.ok.kind hk hc hcell fin) hd
  ·exact wpAny_Name (wpAny_loadName_free I.ok.kind hk hc hcell fin hcd) hd
theorem YB:PE X (.Constant (.int i) j pos) (tC (.int i)):=λ_ _ _ H _ I h=>wpAny_Constant_int ⟨.int i,H,I.tok _,⟨_,rfl⟩,h⟩
theorem Zw:PE X (.Constant (.bool b) j pos) (tC (.bl b)):=λ_ _ _ H _ I h=>Constant_bool ⟨.bl b,H,I,rfl,h⟩
theorem YA:PE X (.Constant .none j pos) (tC .non):=λ_ _ _ H _ I h=>Constant_none ⟨.non,H,I,rfl,h⟩
theorem X6:PE X (.Constant (.str x) j pos) (tC (.str x)):=λ_ _ _ H _ I h=>Calls.Constant_str ⟨.str x,H,I.tok _,⟨_,rfl⟩,h⟩
def Gl(X:Cx)(x:Str):Prop:=X.env.kindOf x=some .globalImplicit
theorem K6(I:Inv X pins σ H s)(hg:Gl X x)(hm:X.mg x=some u)(h:Q u s)
  (hd:(x==("__debug__" : Str))=false:=by decide):wpAny (model X.prog X.w) X.A (eval (.Name x pos) X.env) Q E s:=
 Calls.Name_function_global I.ok.kind hg (Calls.loadGlobal_global (by rw[I.ok.glob];exact I.mod.glob.keeps I.bk) hm h) hd
theorem Em(I:Inv X pins σ H s)(hg:Gl X x)(hm:X.mg x=none)(hv:bootBuiltins x=some u)(h:Q u s)
  (hn:x ≠ "__name__" := by decide) (hd:(x==("__debug__" : Str))=false:=by decide):wpAny (model X.prog X.w) X.A (eval (.Name x pos) X.env) Q E s:=by
 obtain⟨mb,h1,h2⟩:=I.mod.blt;exact Calls.Name_function_global I.ok.kind hg (Calls.loadGlobal_builtin (by rw[I.ok.glob];exact I.mod.glob.keeps I.bk) hm (by rw[I.ok.blt];exact h1.keeps I.bk) ((h2 x hn).trans hv) h) hd
theorem O9(hg:Gl X x)(hm:X.mg x=some u)(r:RelV v u)(hd:(x==("__debug__" : Str))=false:=by decide):PE X (.Name x pos) (tC v):=
 λ_ _ _ H _ I h=>K6 I hg hm ⟨v,H,I,r,h⟩ hd
theorem Vk(hg:Gl X x)(hm:X.mg x=none)(hv:bootBuiltins x=some u)(r:RelV v u)(hn:x ≠ "__name__" := by decide)(hd:(x==("__debug__" : Str))=false:=by decide):PE X (.Name x pos) (tC v):=
 λ_ _ _ H _ I h=>Em I hg hm hv ⟨v,H,I,r,h⟩ hn hd
variable{a b:Expr}{ta tb:TE}{pos:Pos}
noncomputable def tB(t:TE):TT:=λσ H Q=>t σ H λx H1=>∃c,x=.bl c/\Q c H1
theorem Xv(h:PE X e t)(he:∀whole,isTrue e X.env whole=(do let v ←whole;standAt e.pos;holding [v] (truthy v)):=by intro _;rfl):PT X e (tB t):=by
 intro pins s σ H Q I hw;refine isTrue_plain (thn (h pins s σ H _ I hw) λv s1 ⟨x,H1,I1,r1,q1⟩=>?_) (he _);obtain⟨d,rfl,q⟩:=q1;cases r1;exact wpAny_truthy_bool ⟨H1,I1,q⟩
variable{tA tB':TT}{BG:List Expr}
noncomputable def ax(t u:TT):TT:=λσ H Q=>t σ H λc H1=>if c=true then u σ H1 Q else Q false H1
noncomputable def tOr(t u:TT):TT:=λσ H Q=>t σ H λc H1=>if c=true then Q true H1 else u σ H1 Q
noncomputable def al(t:TT):TT:=λσ H Q=>t σ H λc H1=>Q (!c) H1
theorem VQ(ha:PT X a tA):PW X (.BoolOp .And [a] pos) tA:=by
 intro wh pins s σ H Q I h;refine isTrue_and (thn (ha pins s σ H Q I h) λc s1 e=>?_);cases c with
 |true=>exact isTrue_and_nil e
 |false=>exact e
theorem Xs(ha:PT X a tA):PW X (.BoolOp .Or [a] pos) tA:=by
 intro wh pins s σ H Q I h;refine isTrue_or (thn (ha pins s σ H Q I h) λc s1 e=>?_);cases c with
 |false=>exact isTrue_or_nil e
 |true=>exact e
theorem Xu(ha:PT X a tA)(hb:PW X (.BoolOp .And (b::BG) pos) tB'):PW X (.BoolOp .And (a::b::BG) pos) (ax tA tB'):=by
 intro wh pins s σ H Q I h;refine isTrue_and (thn (ha pins s σ H _ I h) λc s1 ⟨H1,I1,q1⟩=>?_);cases c with
 |true=>exact hb wh pins s1 σ H1 Q I1 q1
 |false=>exact⟨H1,I1,q1⟩
theorem Zo(ha:PT X a tA)(hb:PW X (.BoolOp .Or (b::BG) pos) tB'):PW X (.BoolOp .Or (a::b::BG) pos) (tOr tA tB'):=by
 intro wh pins s σ H Q I h;refine isTrue_or (thn (ha pins s σ H _ I h) λc s1 ⟨H1,I1,q1⟩=>?_);cases c with
 |true=>exact⟨H1,I1,q1⟩
 |false=>exact hb wh pins s1 σ H1 Q I1 q1
theorem Xw(ha:PT X a tA):PT X (.UnaryOp .Not a pos) (al tA):=by
 intro pins s σ H Q I h;exact isTrue_not (ha pins s σ H (λc H1=>Q (!c) H1) I h)
noncomputable def Ze(ta tb:TE):TE:=λσ H Q=>ta σ H λx H1=>∃c,x=.bl c/\if c=true then tb σ H1 Q else Q (.bl false) H1
noncomputable def ak(ta tb:TE):TE:=λσ H Q=>ta σ H λx H1=>∃c,x=.bl c/\if c=true then Q (.bl true) H1 else tb σ H1 Q
noncomputable def ZS(ta:TE):TE:=λσ H Q=>ta σ H λx H1=>∃c,x=.bl c/\Q (.bl (!c)) H1
theorem X8(h:PE X a t):PE X (.BoolOp op [a] pos) t:=λpins s σ H Q I hw=>BoolOp_one (h pins s σ H Q I hw)
theorem YE(ha:PE X a ta)(hb:PE X (.BoolOp .And (b::BG) pos) tb):PE X (.BoolOp .And (a::b::BG) pos) (Ze ta tb):=by
 intro pins s σ H Q I h;refine BoolOp_and (thn (ha pins s σ H _ I h) λv s1 ⟨x,H1,I1,r1,q1⟩=>?_);obtain⟨c,rfl,q1⟩:=q1;cases r1;refine wpAny_truthy_bool ?_;cases c with
 |true=>exact hb pins s1 σ H1 Q I1 q1
 |false=>exact⟨.bl false,H1,I1,rfl,q1⟩
theorem Zs(ha:PE X a ta)(hb:PE X (.BoolOp .Or (b::BG) pos) tb):PE X (.BoolOp .Or (a::b::BG) pos) (ak ta tb):=by
 intro pins s σ H Q I h;refine BoolOp_or (thn (ha pins s σ H _ I h) λv s1 ⟨x,H1,I1,r1,q1⟩=>?_);obtain⟨c,rfl,q1⟩:=q1;cases r1;refine wpAny_truthy_bool ?_;cases c with
 |false=>exact hb pins s1 σ H1 Q I1 q1
 |true=>exact⟨.bl true,H1,I1,rfl,q1⟩
theorem X9(ha:PE X a ta):PE X (.UnaryOp .Not a pos) (ZS ta):=by
 intro pins s σ H Q I h;refine UnaryOp_ (thn (ha pins s σ H _ I h) λv s1 ⟨x,H1,I1,r1,q1⟩=>?_);obtain⟨c,rfl,q1⟩:=q1;cases r1;exact not_of (wpAny_truthy_bool ⟨.bl (!c),H1,I1,rfl,q1⟩)
noncomputable def tIf(t:TT)(ta tb:TE):TE:=λσ H Q=>t σ H λc H1=>if c=true then ta σ H1 Q else tb σ H1 Q
theorem TC(hc:PT X c tA)(ha:PE X a ta)(hb:PE X b tb):PE X (.IfExp c a b pos) (tIf tA ta tb):=by
 intro pins s σ H Q I h;refine wpAny_IfExp (thn (hc pins s σ H _ I h) λd s1 ⟨H1,I1,q1⟩=>?_);cases d with
 |true=>exact ha pins s1 σ H1 Q I1 q1
 |false=>exact hb pins s1 σ H1 Q I1 q1
end
def SqL(K:PySem.W.Frag)(H:Hp)(a:Addr)(xs:List V):Prop:=
 Rd H a (.lst xs) ∨
  ∃(o:Obj) (its:Array Value) (n:Nat),K.lookup a=some o/\o.cls=.type "list" /\ o.dict=none/\o.data=.seq its n/\its.size<=sizeLine/\Vals xs its.toList
def SqT(K:PySem.W.Frag)(H:Hp)(a:Addr)(xs:List V):Prop:=
 Rd H a (.tup xs) ∨
  ∃(o:Obj) (its:Array Value) (n:Nat),K.lookup a=some o/\o.cls=.type "tuple" /\ o.data=.seq its n/\its.size<=sizeLine/\Vals xs its.toList
noncomputable def bu:Value->Option V
 | .none=>some .non
 | .bool b=>some (.bl b)
 | .int i _=>some (.int i)
 | .str x _=>some (.str x)
 | .bytes b _=>some (.byt b)
 | .float b _=>some (.flt b)
 | .ref a=>some (.ref a)
 | .type n=>some (.ty n)
 |_=>none
theorem RelV.abs(r:RelV x u):bu u=some x:=by
 cases x with
 |non=>cases r;rfl
 |bl _=>cases r;rfl
 |int _=>obtain⟨t,rfl⟩:=r;rfl
 |str _=>obtain⟨t,rfl⟩:=r;rfl
 |byt _=>obtain⟨t,rfl⟩:=r;rfl
 |flt _=>obtain⟨t,rfl⟩:=r;rfl
 |ref _=>cases r;rfl
 |ty _=>cases r;rfl
theorem RelV.inj(r:RelV x u)(q:RelV y u):x=y:=Option.some.inj (r.abs.symm.trans q.abs)
theorem Vals.inj:∀{xs ys:List V} {us:List Value},Vals xs us->Vals ys us->xs=ys
 |_,_,_,.nil,.nil=>rfl
 |_,_,_,.cons r t,.cons r' t'=>by rw[r.inj r',Vals.inj t t']
section
variable{X:Cx}{pins:List (Addr×Obj)}{σ:St}{H:Hp}{s:Shared}{a:Addr}{xs ys:List V}
theorem SqL.of{K:PySem.W.Frag}(h:H a=some (.lst xs)):SqL K H a xs:=.inl (.inl h)
theorem SqT.of{K:PySem.W.Frag}(h:H a=some (.tup xs)):SqT K H a xs:=.inl (.inl h)
theorem Inv.list(I:Inv X pins σ H s)(h:SqL X.K H a xs):∃its:List Value,Vals xs its/\PlainL s.heap a its.toArray/\xs.length<=sizeLine:=by
 rcases h with h|⟨o,its,n,hk,hc,hd,hs,hz,r⟩
 ·obtain⟨z,its,n,r,e⟩:=h.ok I.hok;exact⟨its,r,⟨_,n,e,rfl,rfl,rfl⟩,z⟩
 ·refine⟨its.toList,r,⟨o,n,I.kIn a o hk,hc,hd,by simpa using hs⟩,?_⟩;have e:=r.length;simp only[Array.length_toList] at e;omega
theorem Inv.tuple(I:Inv X pins σ H s)(h:SqT X.K H a xs):∃its:List Value,Vals xs its/\IsTup s.heap a its.toArray/\xs.length<=sizeLine:=by
 rcases h with h|⟨o,its,n,hk,hc,hs,hz,r⟩
 ·obtain⟨z,its,r,p⟩:=h.ok I.hok;exact⟨its,r,p,z⟩
 ·refine⟨its.toList,r,⟨o,I.kIn a o hk,hc,n,by simpa using hs⟩,?_⟩;have e:=r.length;simp only[Array.length_toList] at e;omega
theorem Inv.list_inj(I:Inv X pins σ H s)(h:SqL X.K H a xs)(h':SqL X.K H a ys):xs=ys:=by
 obtain⟨its,r,⟨o,n,e,_,_,d⟩,_⟩:=I.list h;obtain⟨its',r',⟨o',n',e',_,_,d'⟩,_⟩:=I.list h';rw[e] at e';cases e';rw[d] at d';injection d' with d1 _
 have:its=its':=by simpa using congrArg Array.toList d1
 subst this;exact r.inj r'
theorem Inv.tuple_inj(I:Inv X pins σ H s)(h:SqT X.K H a xs)(h':SqT X.K H a ys):xs=ys:=by
 obtain⟨its,r,⟨o,e,_,n,d⟩,_⟩:=I.tuple h;obtain⟨its',r',⟨o',e',_,n',d'⟩,_⟩:=I.tuple h';rw[e] at e';cases e';rw[d] at d';injection d' with d1 _
 have:its=its':=by simpa using congrArg Array.toList d1
 subst this;exact r.inj r'
end
noncomputable abbrev Cx.wish(X:Cx)(E:Value->Shared->Prop):Cx:={ X with xe:=E }
noncomputable abbrev Cx.nox(X:Cx):Cx:=X.wish λ_ _=>False
theorem Cx.Ok.wish{X:Cx}(ok:X.Ok)(E:Value->Shared->Prop):(X.wish E).Ok:=
 ⟨ok.mod,ok.kind,ok.glob,ok.blt,ok.above,ok.inj,ok.has,ok.cab,ok.hd,ok.frames,ok.stk,ok.exf,ok.bs,ok.bsz,ok.noex,ok.exfs,ok.funs,ok.frf⟩
theorem Cx.Ok.unwish{X:Cx}(ok:(X.wish E).Ok):X.Ok:=
 ⟨ok.mod,ok.kind,ok.glob,ok.blt,ok.above,ok.inj,ok.has,ok.cab,ok.hd,ok.frames,ok.stk,ok.exf,ok.bs,ok.bsz,ok.noex,ok.exfs,ok.funs,ok.frf⟩
section
variable{X:Cx}{pins:List (Addr×Obj)}{σ:St}{H:Hp}{s:Shared}{E:Value->Shared->Prop}
theorem Inv.wish(I:Inv X pins σ H s)(E:Value->Shared->Prop):Inv (X.wish E) pins σ H s:=⟨I.ok.wish E,I.os,I.bare,I.base,I.loc,I.cell,I.free,I.freeC,I.pin,I.hok,I.len⟩
theorem Inv.unwish(I:Inv (X.wish E) pins σ H s):Inv X pins σ H s:=⟨I.ok.unwish,I.os,I.bare,I.base,I.loc,I.cell,I.free,I.freeC,I.pin,I.hok,I.len⟩
theorem SP.unwish(h:SP (X.wish E) pins D f s'):SP X pins D f s':=by
 cases f with
 |next=>obtain⟨σ',H',I,q⟩:=h;exact⟨σ',H',I.unwish,q⟩
 |brk=>obtain⟨σ',H',I,q⟩:=h;exact⟨σ',H',I.unwish,q⟩
 |cont=>obtain⟨σ',H',I,q⟩:=h;exact⟨σ',H',I.unwish,q⟩
 |ret u=>obtain⟨v,σ',H',I,r,q⟩:=h;exact⟨v,σ',H',I.unwish,r,q⟩
theorem PSs.nox{st:List Stmt}(h:PSs X.nox st t):PSs X st t:=λpins s σ H D I hw=>
 AAj (h pins s σ H D (I.wish _) hw) (λ_ _ q=>q.unwish) λ_ _ z=>False.elim z
end
section
variable{X:Cx}{st:Stmt}{BG:List Stmt}{t u:TS}{e:Expr}{te:TE}{pos:Pos}
noncomputable def ZT:TS:=λD σ H=>D.nx σ H
noncomputable def ah(t u:TS):TS:=λD σ H=>t { D with nx:=u D } σ H
theorem VU:PSs X [] ZT:=λ_ _ σ H _ I h=>wpAny_execs_nil ⟨σ,H,I,h⟩
theorem Sr(h1:PS X st t)(h2:PSs X BG u):PSs X (st::BG) (ah t u):=by
 intro pins s σ H D I h;refine wpAny_execs_cons (thn (h1 pins s σ H { D with nx:=u D } I h) λf s1 q=>?_);cases f with
 |next=>
  obtain⟨σ',H',I',q⟩:=q;exact h2 pins s1 σ' H' D I' q
 |ret v=>exact q
 |brk=>exact q
 |cont=>exact q
theorem VT(h1:PS X st t):PSs X [st] t:=by
 intro pins s σ H D I h;refine wpAny_execs_cons (thn (h1 pins s σ H D I h) λf s1 q=>?_);cases f with
 |next=>exact wpAny_execs_nil q
 |ret v=>exact q
 |brk=>exact q
 |cont=>exact q
theorem Inv.quiet(I:Inv X pins σ H s):interactive X.env=false:=by simp[interactive,I.ok.kind]
noncomputable def ZY(te:TE):TS:=λD σ H=>te σ H λ_ H1=>D.nx σ H1
theorem VW(he:PE X e te)(hs:swapsWith e none pos.line X.env=pure false:=by rfl):PS X (.Expr e pos) (ZY te):=by
 intro pins s σ H D I h;exact wpAny_Expr_any (thn (he pins s σ H _ I h) λv s1 ⟨x,H1,I1,r1,q1⟩=>⟨σ,H1,I1,q1⟩) I.quiet hs
noncomputable def aj(te:TE):TS:=λD σ H=>te σ H D.rt
theorem Xy(he:PE X e te):PS X (.Return (some e) pos) (aj te):=by
 intro pins s σ H D I h;exact wpAny_Return_some (thn (he pins s σ H _ I h) λv s1 ⟨x,H1,I1,r1,q1⟩=>⟨x,σ,H1,I1,r1,q1⟩)
noncomputable def ar(c:TT)(t u:TS):TS:=λD σ H=>c σ H λb H1=>if b=true then t D σ H1 else u D σ H1
theorem Zq(hc:PT X c tc)(ha:PSs X a t)(hb:PSs X b u):PS X (.If c a b pos) (ar tc t u):=by
 intro pins s σ H D I h;refine wpAny_If (thn (hc pins s σ H _ I h) λd s1 ⟨H1,I1,q1⟩=>?_);cases d with
 |true=>exact ha pins s1 σ H1 D I1 q1
 |false=>exact hb pins s1 σ H1 D I1 q1
noncomputable def Xf:TS:=λ_ _ _=>False
theorem Su:PS X st Xf:=λ_ _ _ _ _ _ h=>h.elim
end
noncomputable abbrev TG:=V->St->Hp->(St->Hp->Prop)->Prop
noncomputable abbrev TGs:=List V->St->Hp->(St->Hp->Prop)->Prop
def PG(X:Cx)(target:Expr)(t:TG):Prop:=
 ∀(pins:List (Addr×Obj)) (s:Shared) (σ:St) (H:Hp) (v:V) (u:Value) (Q:St->Hp->Prop),Inv X pins σ H s->RelV v u->t v σ H Q->
  wpAny (model X.prog X.w) X.A (assign target X.env u) (λ_ s'=>∃σ' H',Inv X pins σ' H' s'/\Q σ' H') X.xe s
def PGs(X:Cx)(ts:List Expr)(t:TGs):Prop:=
 ∀(pins:List (Addr×Obj)) (s:Shared) (σ:St) (H:Hp) (vs:List V) (us:List Value) (Q:St->Hp->Prop),Inv X pins σ H s->Vals vs us->t vs σ H Q->
  wpAny (model X.prog X.w) X.A (assignInOrder ((assignEach ts X.env).map (·.2)) us) (λ_ s'=>∃σ' H',Inv X pins σ' H' s'/\Q σ' H') X.xe s
noncomputable abbrev TIp:=V->V->Hp->VK->Prop
def PIp(X:Cx)(op:Operator)(t:TIp):Prop:=
 ∀(pins:List (Addr×Obj)) (s:Shared) (σ:St) (H:Hp) (x y:V) (v u:Value) (Q:VK),Inv X pins σ H s->RelV x v->RelV y u->t x y H Q->
  wpAny (model X.prog X.w) X.A (inplaceOp op v u) (EP X pins σ Q) X.xe s
section
variable{X:Cx}{pos:Pos}
noncomputable def EH(i:Nat):TG:=λv σ H Q=>Q (σ.set i (some v)) H
theorem Aw(hN:X.N.Nodup)(hi:X.N[i]?=some x)(hx:Loc X.env.scope x)(hf:X.fn x=true∨X.env.scope.names.lookup x=some .local:=by first|exact .inl rfl|exact .inr rfl|assumption):PG X (.Name x pos) (EH i):=by
 intro pins s σ H v u Q I r h;exact wpAny_assign_Name (Ho I hN hi hx r (λs' I'=>⟨_,H,I',h⟩) hf)
noncomputable def aG:TGs:=λvs σ H Q=>vs=[]/\Q σ H
noncomputable def W7(t:TG)(u:TGs):TGs:=λvs σ H Q=>∃v r,vs=v::r/\t v σ H λσ' H'=>u r σ' H' Q
theorem Cw:PGs X [] aG:=by
 intro pins s σ H vs us Q I r h;obtain⟨e,h⟩:=h;subst e;cases r;exact assignInOrder_nil ⟨σ,H,I,h⟩
theorem A1(h1:PG X e t)(h2:PGs X es u)
  (hs:(assignEach (e::es) X.env).map (·.2)=assign e X.env::(assignEach es X.env).map (·.2):=by rfl):PGs X (e::es) (W7 t u):=by
 intro pins s σ H vs us Q I r h;obtain⟨v,vr,e1,h⟩:=h;subst e1;cases r with
 |cons r rr=>
  rw[hs];refine assignInOrder_cons (thn (h1 pins s σ H _ _ _ I r h) λ_ s1 ⟨σ1,H1,I1,q1⟩=>?_);exact h2 pins s1 σ1 H1 _ _ Q I1 rr q1
noncomputable def Yi(K:PySem.W.Frag)(n:Nat)(t:TGs):TG:=λv σ H Q=>∃a xs,v=.ref a/\SqT K H a xs/\xs.length=n/\t xs σ H Q
theorem S8(hc:X.calm=true)(h:PGs X es t)
  (hn:(assignEach es X.env).length=n:=by rfl) (hst:(assignEach es X.env).findIdx? (·.1)=none:=by rfl):PG X (.Tuple es k pos) (Yi X.K n t):=by
 intro pins s σ H v u Q I r hw;obtain⟨a,xs,e1,hq,hl,hw⟩:=hw;subst e1;cases r;obtain⟨its,rv,ht,hz⟩:=I.tuple hq;refine assign_Tuple_tuple (I.ok.hd hc) ht (by simp[hn,←hl,rv.length]) hst λh' hx=>?_;have I1:Inv X pins σ H { s with heap:=h' }:=I.kept (t':=s.toks) λb o e=>hx b o (AAe (Heap.lt_size e)) e;exact h pins _ σ H xs _ Q I1 (by simpa using rv) hw
noncomputable def SC(te:TE)(g:TG):TS:=λD σ H=>te σ H λx H1=>g x σ H1 D.nx
theorem X1(he:PE X e te)(hg:PG X tg g)(hs:swapsWithSole [tg] e pos.line X.env=pure false:=by rfl)(hw:swappedStores [tg] e X.env=pure none:=by rfl)
  (h1:(assignEach [tg] X.env).map (·.2)=[assign tg X.env]:=by rfl):PS X (.Assign [tg] e pos) (SC te g):=by
 intro pins s σ H D I h;refine wpAny_Assign_stores (thn (he pins s σ H _ I h) λv s1 ⟨x,H1,I1,r1,q1⟩=>?_) hs hw;rw[h1];exact thn (hg pins s1 σ H1 x v _ I1 r1 q1) λ_ s2 q=>q
theorem Xx(hN:X.N.Nodup)(hi:X.N[i]?=some x)(hx:Loc X.env.scope x)(he:PE X e te)(hs:swapsWith e (some (.Name x pos')) pos.line X.env=pure false:=by rfl)(hf:X.fn x=true∨X.env.scope.names.lookup x=some .local:=by first|exact .inl rfl|exact .inr rfl|assumption):
  PS X (.Assign [.Name x pos'] e pos) (SC te (EH i)):=by
 intro pins s σ H D I h;refine wpAny_Assign_Name (thn (he pins s σ H _ I h) λv s1 ⟨y,H1,I1,r1,q1⟩=>?_) hs;exact Ho I1 hN hi hx r1 (λs2 I2=>⟨_,H1,I2,q1⟩) hf
noncomputable def aw(i:Nat)(te:TE)(ti:TIp):TS:=λD σ H=>∃x,σ[i]?=some (some x)/\te σ H λy H1=>ti x y H1 λz H2=>D.nx (σ.set i (some z)) H2
theorem X0(hN:X.N.Nodup)(hi:X.N[i]?=some x)(hx:Loc X.env.scope x)(he:PE X e te)(ho:PIp X op ti)(hf:X.fn x=true∨X.env.scope.names.lookup x=some .local:=by first|exact .inl rfl|exact .inr rfl|assumption):
  PS X (.AugAssign (.Name x pos') op e pos) (aw i te ti):=by
 intro pins s σ H D I h;obtain⟨v,e1,h⟩:=h;obtain⟨m,hn,hl⟩:=I.loc;have vis:Vis X.env.scope x:=by rcases hx with k|k;exact .inl k;exact .inr (.inl k)
 obtain⟨u,r,l⟩:=hl i x v hi e1 vis;refine wpAny_AugAssign_Name ?_;have go:wpAny (model X.prog X.w) X.A (eval e X.env) (λw s₂=>wpAny (model X.prog X.w) X.A (inplaceOp op u w) (λr s₃=>wpAny (model X.prog X.w) X.A (storeName X.env x r) (λ_=>SP X pins D .next) X.xe s₃) X.xe s₂) X.xe s:=by
  refine thn (he pins s σ H _ I h) λw s1 ⟨y,H1,I1,r1,q1⟩=>?_;refine thn (ho pins s1 σ H1 v y u w _ I1 r r1 q1) λz s2 ⟨zv,H2,I2,r2,q2⟩=>?_;exact Ho I2 hN hi hx r2 (λs3 I3=>⟨_,H2,I3,q2⟩) hf
 rcases l with ⟨hk,hm⟩|⟨hk,c,hc,hcell⟩
 ·exact wpAny_loadName_local I.ok.kind hk hn hm go
 ·rcases hk with hk|hk
  ·exact wpAny_loadName_cell I.ok.kind hk hc hcell go
  ·rcases hx with k|k
   ·have:X.env.scope.names.lookup x=some .free:=hk;rw[k] at this;cases this
   ·have:X.env.scope.names.lookup x=some .free:=hk;rw[k] at this;cases this
noncomputable def ipI(f:Int->Int->Int):TIp:=λx y H Q=>∃i j,x=.int i/\y=.int j/\Q (.int (f i j)) H
theorem Ye:PIp X .Sub (ipI λi j=>i-j):=by
 intro pins s σ H x y v u Q I r1 r2 h;obtain⟨i,j,e1,e2,q⟩:=h;subst e1;subst e2;obtain⟨t,rfl⟩:=r1;obtain⟨t',rfl⟩:=r2;exact isub_int ⟨.int _,H,I.tok _,⟨_,rfl⟩,q⟩
end
section
variable{X:Cx}{pos:Pos}
noncomputable def Xe(c:TT)(tb:TS):TS:=λD σ H=>∃W:Nat->St->Hp->Prop,(∃m,W m σ H)/\∀m σ H,W m σ H->
 c σ H λb H1=>if b=true then ∃N:St->Hp->Prop,(∀σ' H',N σ' H'->∃m',m'<m/\W m' σ' H')/\tb { D with nx:=N,ct:=N,bk:=D.nx } σ H1 else D.nx σ H1
theorem Ss(hp:PassesOwn (model X.prog X.w) X.A X.env X.xe)(hc:PT X c tc)(hb:PSs X body tb):PS X (.While c body [] pos) (Xe tc tb):=by
 intro pins s σ H D I h;obtain⟨W,⟨m0,w0⟩,turn⟩:=h;refine wpAny_While (codeAny_whileLoop (λn s'=>∃σ' H',Inv X pins σ' H' s'/\W n σ' H') ?_ m0 ⟨σ,H,I,w0⟩);rintro n s1 ⟨σ1,H1,I1,w1⟩;refine wpAny_passesOwn hp (thn (hc pins s1 σ1 H1 _ I1 (turn n σ1 H1 w1)) λb s2 ⟨H2,I2,q2⟩=>?_);cases b with
 |true=>
  obtain⟨N,hN,q2⟩:=q2;rw[if_pos rfl];refine wpAny_passesOwn hp (thn (hb pins s2 σ1 H2 _ I2 q2) λf s3 q3=>?_);cases f with
  |next=>
   obtain⟨σ3,H3,I3,n3⟩:=q3;obtain⟨m',hm,w3⟩:=hN σ3 H3 n3;exact⟨m',hm,σ3,H3,I3,w3⟩
  |cont=>
   obtain⟨σ3,H3,I3,n3⟩:=q3;obtain⟨m',hm,w3⟩:=hN σ3 H3 n3;exact⟨m',hm,σ3,H3,I3,w3⟩
  |brk=>exact q3
  |ret v=>exact q3
 |false=>
  rw[if_neg AAg];exact wpAny_execs_nil ⟨σ1,H2,I2,q2⟩
end
set_option genInjectivity false in
structure It where
 go:Nat->Hp->Prop
 yld:Nat->Hp->V->Hp->Prop
 stop:Nat->Hp->Prop
def EQ(X:Cx)(pins:List (Addr×Obj))(H:Hp)(b:Addr):Prop:=
 H b=none/\b≠X.env.locals/\b∉X.fs/\(b∈X.ex∨X.s₀.heap.objs.size<=b)/\(∀x c,X.env.cells.lookup x=some c->c≠b)/\∀p∈X.pn++pins,p.1≠b
theorem Inv.fpOk(I:Inv X pins σ H s)(hb:s.heap.objs.size<=b)(hn:H' b=none):EQ X pins H' b:=by
 refine⟨hn,Nat.ne_of_gt (AAN I.lt hb),I.nofs hb,.inr (AAs I.sz hb),λx c e z=>?_,λp hp z=>?_⟩
 ·obtain⟨v,q⟩:=I.cell x c e;exact absurd (AAN q.lt (by rw[z];exact hb)) (AA1 _)
 ·exact absurd (AAN (Heap.lt_size (I.pin p hp).1) (by rw[z];exact hb)) (AA1 _)
structure LM(P:Program)(w:World)(K:PySem.W.Frag)(tg:Expr)(J:It)(fp:List Addr)(it:Addr)(tn:Nat->Heap->Prop):Prop where
 mem:it∈fp
 obj:∀i h,tn i h->∀b∈fp,∃o,h.get? b=some o/\∀v,o.data≠.cell v
 keep:∀i h h',tn i h->(∀b∈fp,∀o,h.get? b=some o->h'.get? b=some o)->tn i h'
 item:∀(X:Cx),X.prog=P->X.w=w->X.K=K->X.calm=true->∀(i:Nat) (pins:List (Addr×Obj)) (s:Shared) (σ:St) (H:Hp) (E:Value->Shared->Prop),Inv X pins σ H s->(∀b∈fp,EQ X pins H b)->tn i s.heap->J.go i H->
  wpAny (model P w) X.A (pyNext (.ref it)) (λr s1=>∃u,r=some u /\
   wpAny (model P w) X.A (letOwnedTupleGo tg (.ref it) u) (λ_ s2=>∃x H',Inv X pins σ H' s2/\RelV x u/\J.yld i H x H'/\tn (i+1) s2.heap/\∀b∈fp,H' b=none) E s1) E s
 done:∀(X:Cx),X.prog=P->X.w=w->X.K=K->X.calm=true->∀(i:Nat) (pins:List (Addr×Obj)) (s:Shared) (σ:St) (H:Hp) (E:Value->Shared->Prop),Inv X pins σ H s->(∀b∈fp,EQ X pins H b)->tn i s.heap->J.stop i H->
  wpAny (model P w) X.A (pyNext (.ref it)) (λr s1=>r=none/\Inv X pins σ H s1) E s
 self:∀(A:Around) (i:Nat) (s:Shared) (Q:Value->Shared->Prop) (E:Value->Shared->Prop),tn i s.heap->Q (.ref it) s->wpAny (model P w) A (pyIter (.ref it)) Q E s
noncomputable abbrev TI:=St->Hp->(It->Hp->Prop)->Prop
def PIE(X:Cx)(pins:List (Addr×Obj))(σ:St)(tg:Expr)(R:It->Hp->Prop)(itv:Value)(s2:Shared):Prop:=
 ∃(it:Addr) (fp:List Addr) (tn:Nat->Heap->Prop) (J:It) (H':Hp),itv=.ref it/\Inv X pins σ H' s2/\LM X.prog X.w X.K tg J fp it tn/\tn 0 s2.heap/\(∀b∈fp,EQ X pins H' b)/\R J H'
def PI(X:Cx)(tg iter:Expr)(wi:TI):Prop:=
 ∀(pins:List (Addr×Obj)) (s:Shared) (σ:St) (H:Hp) (R:It->Hp->Prop),Inv X pins σ H s->wi σ H R->
  wpAny (model X.prog X.w) X.A (eval iter X.env) (λv s1=>wpAny (model X.prog X.w) X.A (pyIter v) (PIE X pins σ tg R) X.xe s1) X.xe s
theorem Tt(ho:s.heap.get? it=some o)(hc:o.cls=.type n)(hd:o.data=.fields vs)
  (hn:["enumerate", "zip", "dict_itemiterator", "dict_reverseitemiterator", "odict_iterator", "itertools.zip_longest", "itertools.pairwise"].contains n=false) (hQ:Q () s):wpAny M A (letOwnedTupleGo tg (.ref it) u) Q E s:=by
 unfold letOwnedTupleGo;cases tg<;>first
  |exact AAB hQ
  |(cases u<;>first
    |exact AAB hQ
    |(refine AAA (wpAny_load ho ?_);rw[hc,hd];show wpAny M A (if (["enumerate", "zip", "dict_itemiterator", "dict_reverseitemiterator", "odict_iterator", "itertools.zip_longest", "itertools.pairwise"].contains n&&vs[0]?==some (rawInt _))=true then _ else _) Q E s;rw[if_neg (by intro h;rw[hn,Bool.false_and] at h;cases h)];exact AAB hQ))
noncomputable def Itl(K:PySem.W.Frag)(a:Addr):It:=
 ⟨λi H=>∃xs x,SqL K H a xs/\xs[i]?=some x,λi H x H'=>H'=H/\∀xs,SqL K H a xs->xs[i]?=some x,λi H=>∃xs,SqL K H a xs/\xs.length<=i⟩
noncomputable def Itt(K:PySem.W.Frag)(a:Addr):It:=
 ⟨λi H=>∃xs x,SqT K H a xs/\xs[i]?=some x,λi H x H'=>H'=H/\∀xs,SqT K H a xs->xs[i]?=some x,λi H=>∃xs,SqT K H a xs/\xs.length<=i⟩
noncomputable def Itr(lo:Int)(n:Nat):It:=⟨λi _=>i<n,λi H x H'=>H'=H/\x=.int (lo+i),λi _=>n<=i⟩
theorem P8{P:Program}{w:World}{K:PySem.W.Frag}{tg:Expr}(a it:Addr):LM P w K tg (Itl K a) [it] it (λi h=>h.IsListIter it a i) where
 mem:=by simp
 obj:=λi h st b hb=>by
  have e:b=it:=by simpa using hb
  subst e;obtain⟨o,e,c,d⟩:=st;exact⟨o,e,λv z=>by rw[d] at z;cases z⟩
 keep:=λi h h' st k=>st.at λo e=>k it (by simp) o e
 item:=by
  intro X hP hw hK hc i pins s σ H E I hf st hg;subst hP hw hK;obtain⟨xs,x,hq,hx⟩:=hg;obtain⟨its,rv,p,hz⟩:=I.list hq;obtain⟨u,hu,ru⟩:=rv.get hx;obtain⟨f0,f1,f2,f3,f4,f5⟩:=hf it (by simp);refine wpAny_pyNext_list_item st p.isList (x:=u) (by simpa using hu) λh' st' sb=>?_;have I1:Inv X pins σ H { s with heap:=h' }:=I.turned (t':=s.toks) (λb o hb e=>(sb.2 b hb).trans e) f0 f1 f3 f4 f5;obtain⟨o,e,c,d⟩:=id st';exact⟨u,rfl,Tt (s:={ s with heap:=h' }) e c d (by decide) ⟨x,H,I1,ru,⟨rfl,λys hy=>by rw[I.list_inj hy hq];exact hx⟩,st',λb hb=>(hf b hb).1⟩⟩
 done:=by
  intro X hP hw hK hc i pins s σ H E I hf st hg;subst hP hw hK;obtain⟨xs,hq,hx⟩:=hg;obtain⟨its,rv,p,hz⟩:=I.list hq;obtain⟨f0,f1,f2,f3,f4,f5⟩:=hf it (by simp);have hl:=rv.length;exact wpAny_pyNext_list_end (I.ok.hd hc) st p.isList (by simp;omega) λh' eb=>⟨rfl,I.turned (t':=s.toks) (λb o hb e=>eb b o hb e) f0 f1 f3 f4 f5⟩
 self:=λ_ _ _ _ _ st h=>wpAny_pyIter_listiter st h
theorem NQ{P:Program}{w:World}{K:PySem.W.Frag}{tg:Expr}(a it:Addr):LM P w K tg (Itt K a) [it] it (λi h=>h.IsTupleIter it a i) where
 mem:=by simp
 obj:=λi h st b hb=>by
  have e:b=it:=by simpa using hb
  subst e;obtain⟨o,e,c,d⟩:=st;exact⟨o,e,λv z=>by rw[d] at z;cases z⟩
 keep:=λi h h' st k=>st.at λo e=>k it (by simp) o e
 item:=by
  intro X hP hw hK hc i pins s σ H E I hf st hg;subst hP hw hK;obtain⟨xs,x,hq,hx⟩:=hg;obtain⟨its,rv,p,hz⟩:=I.tuple hq;obtain⟨u,hu,ru⟩:=rv.get hx;obtain⟨f0,f1,f2,f3,f4,f5⟩:=hf it (by simp);refine wpAny_pyNext_tuple_item st (show s.heap.IsTuple a its.toArray from p) (x:=u) (by simpa using hu) λh' st' sb=>?_;have I1:Inv X pins σ H { s with heap:=h' }:=I.turned (t':=s.toks) (λb o hb e=>(sb.2 b hb).trans e) f0 f1 f3 f4 f5;obtain⟨o,e,c,d⟩:=id st';exact⟨u,rfl,Tt (s:={ s with heap:=h' }) e c d (by decide) ⟨x,H,I1,ru,⟨rfl,λys hy=>by rw[I.tuple_inj hy hq];exact hx⟩,st',λb hb=>(hf b hb).1⟩⟩
 done:=by
  intro X hP hw hK hc i pins s σ H E I hf st hg;subst hP hw hK;obtain⟨xs,hq,hx⟩:=hg;obtain⟨its,rv,p,hz⟩:=I.tuple hq;obtain⟨f0,f1,f2,f3,f4,f5⟩:=hf it (by simp);have hl:=rv.length;exact wpAny_pyNext_tuple_end (I.ok.hd hc) st (show s.heap.IsTuple a its.toArray from p) (by simp;omega) λh' eb=>⟨rfl,I.turned (t':=s.toks) (λb o hb e=>eb b o hb e) f0 f1 f3 f4 f5⟩
 self:=λ_ _ _ _ _ st h=>wpAny_pyIter_tupleiter st h
theorem NR{P:Program}{w:World}{K:PySem.W.Frag}{tg:Expr}(it:Addr)(lo:Int)(n:Nat):LM P w K tg (Itr lo n) [it] it (λi h=>IsRangeIter h it (lo+(i:Nat) * 1) ((n:Int)-(i:Nat)) 1) where
 mem:=by simp
 obj:=λi h st b hb=>by
  have e:b=it:=by simpa using hb
  subst e;exact⟨_,st,λv z=>by
   have z':Data.fields _=Data.cell v:=z;cases z'⟩
 keep:=λi h h' st k=>k it (by simp) _ st
 item:=by
  intro X hP hw hK hc i pins s σ H E I hf st hg;subst hP hw hK;obtain⟨f0,f1,f2,f3,f4,f5⟩:=hf it (by simp);have W:=Walks.range (prog:=X.prog) (w:=X.w) (I.ok.hd hc) it lo 1 n;refine W.item i s _ _ hg st λv h' tk hv st' kk=>?_;obtain⟨t,rfl⟩:=hv;have I1:Inv X pins σ H { s with heap:=h',toks:=tk }:=I.turned (λb o hb e=>kk b o (by simpa using hb) e) f0 f1 f3 f4 f5;refine⟨_,rfl,Tt (s:={ s with heap:=h',toks:=tk }) (n := "range_iterator") st' rfl rfl (by decide) ⟨.int (lo+i),H,I1,⟨t,?_⟩,⟨rfl,rfl⟩,st',λb hb=>(hf b hb).1⟩⟩;rw[Int.mul_one]
 done:=by
  intro X hP hw hK hc i pins s σ H E I hf st hg;subst hP hw hK;obtain⟨f0,f1,f2,f3,f4,f5⟩:=hf it (by simp);exact wpAny_pyNext_range_end (I.ok.hd hc) st (by have:n<=i:=hg;omega) λh' eb=>⟨rfl,I.turned (t':=s.toks) (λb o hb e=>eb b o hb e) f0 f1 f3 f4 f5⟩
 self:=λ_ _ _ _ _ st h=>wpAny_pyIter_rangeiter st h
section
variable{X:Cx}{tg:Expr}
noncomputable def W5(K:PySem.W.Frag)(tl:TE):TI:=λσ H R=>tl σ H λx H1=>∃a,x=.ref a/\(∃xs,SqL K H1 a xs)/\R (Itl K a) H1
noncomputable def aE(K:PySem.W.Frag)(tl:TE):TI:=λσ H R=>tl σ H λx H1=>∃a,x=.ref a/\(∃xs,SqT K H1 a xs)/\R (Itt K a) H1
theorem O8{l:Expr}{tl:TE}(hl:PE X l tl):PI X tg l (W5 X.K tl):=by
 intro pins s σ H R I h;refine thn (hl pins s σ H _ I h) λv s1 ⟨x,H1,I1,r1,q1⟩=>?_;obtain⟨a,e,⟨xs,hq⟩,q⟩:=q1;subst e;cases r1;obtain⟨its,rv,p,hz⟩:=I1.list hq;refine wpAny_pyIter_list p.isList ?_;refine⟨s1.heap.objs.size,[s1.heap.objs.size],_,_,H1,rfl,I1.kept (t':=s1.toks) λb o e=>AAC _ e,P8 a _,⟨_,AAD _ rfl,rfl,rfl⟩,λb hb=>?_,q⟩;have e:b=s1.heap.objs.size:=by simpa using hb
 subst e;exact I1.fpOk (AAF _) (I1.hok.fresh (AAF _))
theorem X3{l:Expr}{tl:TE}(hl:PE X l tl):PI X tg l (aE X.K tl):=by
 intro pins s σ H R I h;refine thn (hl pins s σ H _ I h) λv s1 ⟨x,H1,I1,r1,q1⟩=>?_;obtain⟨a,e,⟨xs,hq⟩,q⟩:=q1;subst e;cases r1;obtain⟨its,rv,p,hz⟩:=I1.tuple hq;refine wpAny_pyIter_tuple (show s1.heap.IsTuple a its.toArray from p) ?_;refine⟨s1.heap.objs.size,[s1.heap.objs.size],_,_,H1,rfl,I1.kept (t':=s1.toks) λb o e=>AAC _ e,NQ a _,⟨_,AAD _ rfl,rfl,rfl⟩,λb hb=>?_,q⟩;have e:b=s1.heap.objs.size:=by simpa using hb
 subst e;exact I1.fpOk (AAF _) (I1.hok.fresh (AAF _))
theorem Sg{pins:List (Addr×Obj)}{σ:St}{H:Hp}{s:Shared}{lo hi:Int}{t u v:Tok}{tk:Nat}(I:Inv X pins σ H s)(h1:-(2 ^ 62)<=lo)(h2:lo<2 ^ 62)(h3:-(2 ^ 62)<=hi)(h4:hi<2 ^ 62)
  (q:R (Itr lo (hi-lo).toNat) H):wpAny (model X.prog X.w) X.A (pyIter (.ref s.heap.objs.size)) (PIE X pins σ tg R) E { s with heap:=s.heap.push { cls:=.type "range",data:=.fields #[.int lo t,.int hi u,.int 1 v] },toks:=tk }:=by
 refine wpAny_pyIter_range (IsRange.new ..) (small_one h1 h2 h3 h4) ?_;have I1:Inv X pins σ H { s with heap:=s.heap.push { cls:=.type "range",data:=.fields #[.int lo t,.int hi u,.int 1 v] },toks:=tk }:=I.kept λb o e=>AAC _ e;refine⟨(s.heap.push { cls:=.type "range",data:=.fields #[.int lo t,.int hi u,.int 1 v] }).objs.size,[(s.heap.push { cls:=.type "range",data:=.fields #[.int lo t,.int hi u,.int 1 v] }).objs.size],_,_,H,rfl,
  I1.kept (t':=tk) λb o e=>AAC _ e,NR _ lo (hi-lo).toNat,?_,λb hb=>?_,q⟩
 ·have e1:lo+((0:Nat):Int) * 1=lo:=by simp
  have e2:(((hi-lo).toNat:Nat):Int)-((0:Nat):Int)=Builtin.Range.rangeSize lo hi 1:=by rw[rangeSize_one];split<;>omega
  show IsRangeIter _ _ (lo+((0:Nat):Int) * 1) ((((hi-lo).toNat:Nat):Int)-((0:Nat):Int)) 1;rw[e1,e2];exact AAD _ rfl
 ·have e:b=(s.heap.push { cls:=.type "range",data:=.fields #[.int lo t,.int hi u,.int 1 v] }).objs.size:=by simpa using hb
  subst e;exact I1.fpOk (AAF _) (I1.hok.fresh (AAF _))
noncomputable def aF(ta:TA):TI:=λσ H R=>ta σ H λvs H1=>∃j:Int,vs=[.int j]/\-(2 ^ 62)<=j/\j<2 ^ 62/\R (Itr 0 j.toNat) H1
theorem QX{a:Expr}{p pos:Pos}(hg:Gl X "range")(hm:X.mg "range" = none)(ha:PA X [a] ta)(hs:starEach [a] X.env=[(false,eval a X.env)]:=by rfl):PI X tg (.Call (.Name "range" p) [a] [] pos) (aF ta):=by
 intro pins s σ H R I h;refine Call_ (Em I hg hm boot_range (PyProof.Rows.callWith_type1 (thn (ha pos pins s σ H _ I h) λus s1 ⟨vs,H1,I1,r1,q1⟩=>?_) hs rfl));obtain⟨j,e,q1,q2,q⟩:=q1;subst e;cases r1 with
 |cons r rr=>
  cases rr;obtain⟨t,rfl⟩:=r;exact call_range_1 (Sg I1 (by omega) (by omega) q1 q2 (by simpa using q))
noncomputable def au(wi:TI)(g:TG)(tb:TS):TS:=λD σ H=>wi σ H λJ H1=>∃W:Nat->Nat->St->Hp->Prop,(∃m,W 0 m σ H1)/\∀i m σ H,W i m σ H->
 (J.stop i H/\D.nx σ H)∨(J.go i H/\∃N:St->Hp->Prop,(∀σ' H',N σ' H'->∃m',m'<m/\W (i+1) m' σ' H')/\∀x H',J.yld i H x H'->g x σ H' λσ2 H2=>tb { D with nx:=N,ct:=N,bk:=D.nx } σ2 H2)
noncomputable def Kw(fp:List Addr)(h:Heap):List (Addr×Obj):=fp.filterMap λb=>(h.get? b).map λo=>(b,o)
theorem BW(hb:b∈fp)(e:h.get? b=some o):(b,o)∈Kw fp h:=List.mem_filterMap.mpr ⟨b,hb,by rw[e];rfl⟩
theorem Qb(hp:p∈Kw fp h):p.1∈fp/\h.get? p.1=some p.2:=by
 obtain⟨b,hb,e⟩:=List.mem_filterMap.mp hp;cases q:h.get? b with
 |none=>rw[q] at e;cases e
 |some o=>
  rw[q] at e;have e':(b,o)=p:=Option.some.inj e;subst e';exact⟨hb,q⟩
theorem Inv.pinned(I:Inv X pins σ H s)(hf:∀b∈fp,EQ X pins H b)(ho:∀b∈fp,∃o,s.heap.get? b=some o/\∀v,o.data≠.cell v):Inv X (pins++Kw fp s.heap) σ H s:=
 I.pins_of λp hp=>(AAK.mp hp).elim (λz=>I.pin p (AAb _ z)) λz=>by
  obtain⟨hb,e⟩:=Qb z;obtain⟨f0,f1,f2,_⟩:=hf p.1 hb;obtain⟨o,e',d⟩:=ho p.1 hb;rw[e] at e';cases e';exact⟨e,f0,f1,f2,d⟩
theorem Inv.unpinned(I:Inv X (pins++pl) σ H s):Inv X pins σ H s:=I.pins_of λp hp=>I.pin p (AAb _ (AAc _ hp))
theorem Sv(hp:PassesOwn (model X.prog X.w) X.A X.env X.xe)(hc:X.calm=true)(hi:PI X tg iter wi)(hg:PG X tg g)(hb:PSs X body tb)
  (hs:∀x,foldedSetIterable iter X.env x=pure x:=by intro _;rfl):PS X (.For tg iter body [] pos) (au wi g tb):=by
 intro pins s σ H D I h;refine wpAny_For (thn (hi pins s σ H _ I h) λv s1 h1=>thn h1 λitv s2 h2=>?_) hs;obtain⟨it,fp,tn,J,H2,e,I2,T,st2,f2,W,⟨m0,w0⟩,turn⟩:=h2;subst e;have stat:∀{H':Hp},(∀b∈fp,H' b=none)->∀b∈fp,EQ X pins H' b:=λhn b hb=>⟨hn b hb,(f2 b hb).2⟩;refine codeAny_forLoop_any (λn s'=>∃i σ' H',Inv X pins σ' H' s'/\tn i s'.heap/\(∀b∈fp,H' b=none)/\W i n σ' H') ?_ m0 ⟨0,σ,H2,I2,st2,λb hb=>(f2 b hb).1,w0⟩;rintro n s3 ⟨i,σ3,H3,I3,st3,fr3,w3⟩;rcases turn i n σ3 H3 w3 with ⟨stop,qn⟩|⟨go,N,hN,step⟩
 ·refine wpAny_passesOwn hp (thn (T.done X rfl rfl rfl hc i pins s3 σ3 H3 X.xe I3 (stat fr3) st3 stop) λr s4 ⟨hr,I4⟩=>?_);subst hr;exact wpAny_execs_nil ⟨σ3,H3,I4,qn⟩
 ·refine wpAny_passesOwn hp (thn (T.item X rfl rfl rfl hc i pins s3 σ3 H3 X.xe I3 (stat fr3) st3 go) λr s4 ⟨u,hr,h4⟩=>?_);subst hr;refine wpAny_passesOwn hp (thn h4 λ_ s5 ⟨x,H5,I5,r5,y5,st5,fr5⟩=>?_);have I5':=I5.pinned (stat fr5) (T.obj _ _ st5);refine wpAny_passesOwn hp (thn (hg _ s5 σ3 H5 x u _ I5' r5 (step x H5 y5)) λ_ s6 ⟨σ6,H6,I6,q6⟩=>?_);refine wpAny_passesOwn hp (thn (hb _ s6 σ6 H6 _ I6 q6) λf s7 q7=>?_);have again:∀{σ7:St} {H7:Hp},Inv X (pins++Kw fp s5.heap) σ7 H7 s7->N σ7 H7->∃m,m<n/\∃i σ' H',Inv X pins σ' H' s7/\tn i s7.heap/\(∀b∈fp,H' b=none)/\W i m σ' H':=λ{σ7 H7} I7 n7=>by
   obtain⟨m',hm,w7⟩:=hN σ7 H7 n7;refine⟨m',hm,i+1,σ7,H7,I7.unpinned,T.keep _ _ _ st5 λb hb o e=>(I7.pin (b,o) (AAb _ (AAb _ (BW hb e)))).1,λb hb=>?_,w7⟩;obtain⟨o,e,d⟩:=T.obj _ _ st5 b hb;exact(I7.pin (b,o) (AAb _ (AAb _ (BW hb e)))).2.1
  cases f with
  |next=>obtain⟨σ7,H7,I7,n7⟩:=q7;exact again I7 n7
  |cont=>obtain⟨σ7,H7,I7,n7⟩:=q7;exact again I7 n7
  |brk=>obtain⟨σ7,H7,I7,q7⟩:=q7;exact⟨σ7,H7,I7.unpinned,q7⟩
  |ret v=>obtain⟨x7,σ7,H7,I7,r7,q7⟩:=q7;exact⟨x7,σ7,H7,I7.unpinned,r7,q7⟩
end
noncomputable abbrev R2:=V->V->Hp->VK->Prop
def OpR(X:Cx)(f:Value->Value->Sem Value)(r:R2):Prop:=
 ∀(pins:List (Addr×Obj)) (s:Shared) (σ:St) (H:Hp) (x y:V) (v u:Value) (Q:VK),Inv X pins σ H s->RelV x v->RelV y u->r x y H Q->
  wpAny (model X.prog X.w) X.A (f v u) (EP X pins σ Q) X.xe s
def UnR(X:Cx)(f:Value->Sem Value)(r:V->Hp->VK->Prop):Prop:=
 ∀(pins:List (Addr×Obj)) (s:Shared) (σ:St) (H:Hp) (x:V) (v:Value) (Q:VK),Inv X pins σ H s->RelV x v->r x H Q->
  wpAny (model X.prog X.w) X.A (f v) (EP X pins σ Q) X.xe s
def Bh(X:Cx)(f:Value)(r:List V->Hp->VK->Prop):Prop:=
 ∀(pins:List (Addr×Obj)) (s:Shared) (σ:St) (H:Hp) (xs:List V) (us:List Value) (Q:VK),Inv X pins σ H s->Vals xs us->r xs H Q->
  wpAny (model X.prog X.w) X.A (call f us) (EP X pins σ Q) X.xe s
def bv(X:Cx)(r:V->Hp->(Bool->Hp->Prop)->Prop):Prop:=
 ∀(pins:List (Addr×Obj)) (s:Shared) (σ:St) (H:Hp) (x:V) (v:Value) (Q:Bool->Hp->Prop),Inv X pins σ H s->RelV x v->r x H Q->
  wpAny (model X.prog X.w) X.A (truthy v) (TP X pins σ Q) X.xe s
noncomputable def tOp(r:R2)(ta tb:TE):TE:=λσ H Q=>ta σ H λx H1=>tb σ H1 λy H2=>r x y H2 Q
noncomputable def tUn(r:V->Hp->VK->Prop)(ta:TE):TE:=λσ H Q=>ta σ H λx H1=>r x H1 Q
noncomputable def rI(C:Int->Int->Prop)(g:Int->Int->V):R2:=λx y H Q=>∃i j,x=.int i/\y=.int j/\C i j/\Q (g i j) H
noncomputable def rI0(g:Int->Int->V):R2:=λx y H Q=>∃i j,x=.int i/\y=.int j/\Q (g i j) H
noncomputable def rU(g:Int->V):V->Hp->VK->Prop:=λx H Q=>∃i,x=.int i/\Q (g i) H
section
variable{X:Cx}{a b:Expr}{ta tb:TE}{pos:Pos}
theorem Yq(ha:PE X a ta)(hb:PE X b tb){pins:List (Addr×Obj)}{s:Shared}{H:Hp}{R:V->V->Hp->Prop}(I:Inv X pins σ H s)
  (h:ta σ H λx H1=>tb σ H1 λy H2=>R x y H2) {Q:Value->Shared->Prop} {f:Value->Value->Sem Value}
  (hf:∀v u s2 x y H2,Inv X pins σ H2 s2->RelV x v->RelV y u->R x y H2->wpAny (model X.prog X.w) X.A (f v u) Q X.xe s2) :
  wpAny (model X.prog X.w) X.A (eval a X.env) (λv s₁=>wpAny (model X.prog X.w) X.A (eval b X.env) (λu s₂=>wpAny (model X.prog X.w) X.A (f v u) Q X.xe s₂) X.xe s₁) X.xe s:=by
 refine thn (ha pins s σ H _ I h) λv s1 ⟨x,H1,I1,r1,q1⟩=>?_;refine thn (hb pins s1 σ H1 _ I1 q1) λu s2 ⟨y,H2,I2,r2,q2⟩=>?_;exact hf v u s2 x y H2 I2 r1 r2 q2
theorem Zt{op:Operator}{r:R2}(ho:OpR X (binaryOp op) r)(ha:PE X a ta)(hb:PE X b tb):PE X (.BinOp a op b pos) (tOp r ta tb):=by
 intro pins s σ H Q I h;exact wpAny_BinOp (Yq ha hb I h λv u s2 x y H2 I2 rx ry q=>ho pins s2 σ H2 x y v u Q I2 rx ry q)
theorem Zr(ho:UnR X (unaryOp op) r)(ha:PE X a ta):PE X (.UnaryOp op a pos) (tUn r ta):=by
 intro pins s σ H Q I h;exact UnaryOp_ (thn (ha pins s σ H _ I h) λv s1 ⟨x,H1,I1,r1,q1⟩=>ho pins s1 σ H1 x v Q I1 r1 q1)
theorem opI{f:Value->Value->Sem Value}{g:Int->Int->Int}
  (rule:∀(i j:Int) (t u:Tok) (s:Shared) (Q:Value->Shared->Prop) (E:Value->Shared->Prop),C i j->Q (.int (g i j) s.toks) { s with toks:=s.toks+1 }->wpAny (model X.prog X.w) X.A (f (.int i t) (.int j u)) Q E s) :
  OpR X f (rI C λi j=>.int (g i j)):=by
 intro pins s σ H x y v u Q I rx ry h;obtain⟨i,j,rfl,rfl,hc,q⟩:=h;obtain⟨t,rfl⟩:=rx;obtain⟨t',rfl⟩:=ry;exact rule i j t t' s _ _ hc ⟨.int (g i j),H,I.tok _,⟨_,rfl⟩,q⟩
theorem Z1{g:Int->Int->Int}
  (rule:∀(i j:Int) (t u:Tok) (s:Shared) (Q:Value->Shared->Prop) (E:Value->Shared->Prop),Q (.int (g i j) s.toks) { s with toks:=s.toks+1 }->wpAny (model X.prog X.w) X.A (f (.int i t) (.int j u)) Q E s) :
  OpR X f (rI0 λi j=>.int (g i j)):=by
 intro pins s σ H x y v u Q I rx ry h;obtain⟨i,j,rfl,rfl,q⟩:=h;obtain⟨t,rfl⟩:=rx;obtain⟨t',rfl⟩:=ry;exact rule i j t t' s _ _ ⟨.int (g i j),H,I.tok _,⟨_,rfl⟩,q⟩
theorem Vq{g:Int->Int->Bool}
  (rule:∀(i j:Int) (t u:Tok) (s:Shared) (Q:Value->Shared->Prop) (E:Value->Shared->Prop),Q (.bool (g i j)) s->wpAny (model X.prog X.w) X.A (f (.int i t) (.int j u)) Q E s) :
  OpR X f (rI0 λi j=>.bl (g i j)):=by
 intro pins s σ H x y v u Q I rx ry h;obtain⟨i,j,rfl,rfl,q⟩:=h;obtain⟨t,rfl⟩:=rx;obtain⟨t',rfl⟩:=ry;exact rule i j t t' s _ _ ⟨.bl (g i j),H,I,rfl,q⟩
def b8(i j:Int):Prop:=0<j/\j<1073741824
def b0(i j:Int):Prop:=0<=j/\j<=1000000/\i.natAbs<2 ^ 64
def CMul(i j:Int):Prop:=(-(2 ^ 64)<i/\i<2 ^ 64)∨(-(2 ^ 64)<j/\j<2 ^ 64)
theorem CMul.ok(h:CMul i j):IntMulOk i j:=by
 rcases h with ⟨h1,h2⟩|⟨h1,h2⟩
 ·exact .of_left (intBits_le_64 h1 h2)
 ·exact .of_right (intBits_le_64 h1 h2)
theorem YQ:OpR X (binaryOp .Add) (rI0 λi j=>.int (i+j)):=Z1 λ_ _ _ _ _ _ _ q=>add_int q
theorem YH:OpR X (binaryOp .Sub) (rI0 λi j=>.int (i-j)):=Z1 λ_ _ _ _ _ _ _ q=>sub_int q
theorem YL:OpR X (binaryOp .Mult) (rI CMul λi j=>.int (i * j)):=opI λ_ _ _ _ _ _ _ hc q=>mul_int q hc.ok
theorem Vo:OpR X (binaryOp .FloorDiv) (rI b8 λi j=>.int (i / j)):=opI λi j _ _ _ _ _ hc q=>by
 have h1:(0:Int)<j:=hc.1;have h2:j<1073741824:=hc.2;exact floordiv_int (by omega) (by rw[Int.fdiv_eq_ediv_of_nonneg i (by omega)];exact q) (.inl (PyProof.noPylong_small (by omega)))
theorem YM:OpR X (binaryOp .Mod) (rI (λ_ j=>0<j) λi j=>.int (i % j)):=opI λi j _ _ _ _ _ hc q=>by
 have h1:(0:Int)<j:=hc;exact mod_int' (by omega) (by rw[Int.fmod_eq_emod_of_nonneg i (by omega)];exact q)
theorem YJ:OpR X (binaryOp .Pow) (rI b0 λi j=>.int (i ^ j.toNat)):=opI λ_ _ _ _ _ _ _ hc q=>pow_int_small hc.1 hc.2.1 hc.2.2 q
theorem unI{g:Int->Int}
  (rule:∀(i:Int) (t:Tok) (s:Shared) (Q:Value->Shared->Prop) (E:Value->Shared->Prop),Q (.int (g i) s.toks) { s with toks:=s.toks+1 }->wpAny (model X.prog X.w) X.A (f (.int i t)) Q E s) :
  UnR X f (rU λi=>.int (g i)):=by
 intro pins s σ H x v Q I rx h;obtain⟨i,rfl,q⟩:=h;obtain⟨t,rfl⟩:=rx;exact rule i t s _ _ ⟨.int (g i),H,I.tok _,⟨_,rfl⟩,q⟩
theorem XY:UnR X (unaryOp .USub) (rU λi=>.int (-i)):=unI λ_ _ _ _ _ q=>neg_int q
end
section
variable{X:Cx}{a b c:Expr}{ta tb tc:TE}{pos:Pos}
theorem LD(I:Inv X pins σ H s)(q:Q (.bl k) H)(e:k=k'):EP X pins σ Q (.bool k') s:=by
 subst e;exact⟨.bl k,H,I,rfl,q⟩
theorem Zx:OpR X (compareOp .Lt) (rI0 λi j=>.bl (decide (i<j))):=Vq λ_ _ _ _ _ _ _ q=>lt_int q
theorem Zy:OpR X (compareOp .LtE) (rI0 λi j=>.bl (decide (i<=j))):=Vq λ_ _ _ _ _ _ _ q=>le_int q
theorem Zz:OpR X (compareOp .Gt) (rI0 λi j=>.bl (decide (j<i))):=Vq λ_ _ _ _ _ _ _ q=>gt_int q
theorem Z0:OpR X (compareOp .GtE) (rI0 λi j=>.bl (decide (j<=i))):=Vq λ_ _ _ _ _ _ _ q=>ge_int q
theorem QZ:OpR X (compareOp .In) (λx y H Q=>∃i j,x=.str i/\y=.str j/\Q (.bl (!(Builtin.Str.occurrences j i 0 j.length 1).isEmpty)) H):=by
 intro pins s σ H x y v u Q I rx ry h;obtain⟨i,j,rfl,rfl,q⟩:=h;obtain⟨t,rfl⟩:=rx;obtain⟨t',rfl⟩:=ry;exact in_str (LD I q rfl)
theorem YN:OpR X (compareOp .Is) (λx y H Q=>y=.non/\Q (.bl (decide (x=.non))) H):=by
 intro pins s σ H x y v u Q I rx ry h;obtain⟨rfl,q⟩:=h;cases ry;refine is_none_gen (LD I q ?_);cases x<;>first
  |(cases rx;rfl)
  |(obtain⟨t,rfl⟩:=rx;rfl)
theorem Vn:OpR X (compareOp .IsNot) (λx y H Q=>y=.non/\Q (.bl (!decide (x=.non))) H):=by
 intro pins s σ H x y v u Q I rx ry h;obtain⟨rfl,q⟩:=h;cases ry;refine isnot_none_gen (LD I q ?_);cases x<;>first
  |(cases rx;rfl)
  |(obtain⟨t,rfl⟩:=rx;rfl)
theorem Ky:OpR X (compareOp .NotIn) (λx y H Q=>∃i j,x=.str i/\y=.str j/\Q (.bl (!(!(Builtin.Str.occurrences j i 0 j.length 1).isEmpty))) H):=by
 intro pins s σ H x y v u Q I rx ry h;obtain⟨i,j,rfl,rfl,q⟩:=h;obtain⟨t,rfl⟩:=rx;obtain⟨t',rfl⟩:=ry;exact notIn_str (LD I q rfl)
theorem TX(b:Expr)(h:op≠.In:=by decide)(h2:op≠.NotIn:=by decide):behindInMarks op b=false:=by
 have e1:(op==CmpOp.In)=false:=by cases op<;>first|rfl|exact absurd rfl h
 have e2:(op==CmpOp.NotIn)=false:=by cases op<;>first|rfl|exact absurd rfl h2
 cases b<;>simp[behindInMarks,e1,e2]
theorem Vi{r:R2}(ho:OpR X (compareOp op) r)(ha:PE X a ta)(hb:PE X b tb)(hm:behindInMarks op b=false):PE X (.Compare a [op] [b] pos) (tOp r ta tb):=by
 intro pins s σ H Q I h;exact wpAny_Compare1 (Yq ha hb I h λv u s2 x y H2 I2 rx ry q=>ho pins s2 σ H2 x y v u Q I2 rx ry q) hm
noncomputable def ZP(t:TE):TT:=λσ H Q=>t σ H λx H'=>∃k,x=.bl k/\Q k H'
theorem VS(ho:OpR X (compareOp op) r)(ha:PE X a ta)(hb:PE X b tb)(hm:behindInMarks op b=false):PT X (.Compare a [op] [b] pos) (ZP (tOp r ta tb)):=by
 intro pins s σ H Q I h;refine wpAny_isTrue_Compare1 (thn (ha pins s σ H _ I h) λv s1 ⟨x,H1,I1,r1,q1⟩=>thn (hb pins s1 σ H1 _ I1 q1) λu s2 ⟨y,H2,I2,r2,q2⟩=>
  thn (ho pins s2 σ H2 x y v u _ I2 r1 r2 q2) λc s3 ⟨z,H3,I3,r3,k,e,q3⟩=>?_) hm
 subst e;cases r3;exact wpAny_truthy_bool ⟨H3,I3,q3⟩
noncomputable def SB(r r':R2)(ta tb tc:TE):TE:=λσ H Q=>ta σ H λx H1=>tb σ H1 λy H2=>r x y H2 λz H3=>∃k,z=.bl k /\
 (if k=true then tc σ H3 λw' H4=>r' y w' H4 Q else Q (.bl false) H3)
theorem TJ(ho:OpR X (compareOp op) r)(ho':OpR X (compareOp op') r')(ha:PE X a ta)(hb:PE X b tb)(hc:PE X c tc)
  (hm:lastMarks [op,op'] [b,c]=false:=by with_unfolding_all rfl):PE X (.Compare a [op,op'] [b,c] pos) (SB r r' ta tb tc):=by
 intro pins s σ H Q I h;refine Compare_chain (thn (ha pins s σ H _ I h) λv s1 ⟨x,H1,I1,r1,q1⟩=>chain_link (thn (hb pins s1 σ H1 _ I1 q1) λu s2 ⟨y,H2,I2,r2,q2⟩=>
  thn (ho pins s2 σ H2 x y v u _ I2 r1 r2 q2) λd s3 ⟨z,H3,I3,r3,k,e,q3⟩=>?_)) hm
 subst e;cases r3;refine wpAny_truthy_bool ?_;cases k with
 |false=>exact ite_ff ⟨.bl false,H3,I3,rfl,q3⟩
 |true=>exact ite_tt (chain_last (thn (hc pins s3 σ H3 _ I3 q3) λw' s4 ⟨z',H4,I4,r4,q4⟩=>ho' pins s4 σ H4 y z' u w' Q I4 r2 r4 q4))
def aX(K:PySem.W.Frag)(x:V)(H:Hp)(k:Bool):Prop:=
 match x with
 | .non=>k=false
 | .bl b=>k=b
 | .int i=>k=(i != 0)
 | .str y=>y.length<=sizeLine/\k=((y.length:Int) != 0)
 | .byt y=>y.size<=sizeLine/\k=((y.size:Int) != 0)
 | .ref p=>(∃xs,SqL K H p xs/\k=!xs.isEmpty)∨(∃xs,SqT K H p xs/\k=!xs.isEmpty)∨∃kvs,H p=some (.dK kvs)/\k=!kvs.isEmpty
 |_=>False
theorem N1(r:KV kvs vs):(!vs.isEmpty)=!kvs.isEmpty:=by
 cases r<;>rfl
theorem IY(r:Vals xs its):(!its.toArray.isEmpty)=!xs.isEmpty:=by
 cases r<;>simp
theorem Gm:(sizeLine:Nat)<2 ^ 63:=by rw[sizeLine_eq];decide
theorem Xb:bv X (λx H Q=>∃k,aX X.K x H k/\Q k H):=by
 intro pins s σ H x v Q I rx h;obtain⟨k,e,q⟩:=h;have hl:=Gm;have hs:sizeLine=16777216:=sizeLine_eq;cases x with
 |non=>
  cases rx;have e':k=false:=e;subst e';exact truthy_none ⟨H,I,q⟩
 |bl b=>
  cases rx;have e':k=b:=e;subst e';exact wpAny_truthy_bool ⟨H,I,q⟩
 |int i=>
  obtain⟨t,rfl⟩:=rx;have e':k=(i != 0):=e;subst e';exact PySem.P.truthy_int ⟨H,I,q⟩
 |str y=>
  obtain⟨t,rfl⟩:=rx;obtain⟨hy,e'⟩:y.length<=sizeLine/\k=((y.length:Int) != 0):=e;subst e';exact PySem.P.truthy_str (by omega) ⟨H,I.tok _,q⟩
 |byt y=>
  obtain⟨t,rfl⟩:=rx;obtain⟨hy,e'⟩:y.size<=sizeLine/\k=((y.size:Int) != 0):=e;subst e';exact PySem.W.truthy_bytes (by omega) ⟨H,I.tok _,q⟩
 |ref p=>
  cases rx;have e':(∃xs,SqL X.K H p xs/\k=!xs.isEmpty)∨(∃xs,SqT X.K H p xs/\k=!xs.isEmpty)∨∃kvs,H p=some (.dK kvs)/\k=!kvs.isEmpty:=e;rcases e' with ⟨xs,hx,e'⟩|⟨xs,hx,e'⟩|⟨kvs,hx,e'⟩
  ·subst e';obtain⟨its,r,pl,hz⟩:=I.list hx;have hlen:=r.length;exact wpAny_truthy_list pl.isList (by simp only[List.size_toArray];omega) ⟨H,I.tok _,by rw[IY r];exact q⟩
  ·subst e';obtain⟨its,r,pl,hz⟩:=I.tuple hx;have hlen:=r.length;exact truthy_tuple pl (by simp only[List.size_toArray];omega) ⟨H,I.tok _,by rw[IY r];exact q⟩
  ·subst e';obtain⟨hz,hS,vs,r,m⟩:kvs.length<=sizeLine/\(p==sysModules)=false/\∃vs,KV kvs vs/\s.heap.DictOf (BL X.prog X.w) p vs:=I.hok p _ hx;have hlen:kvs.length=vs.length:=Paired.length r;exact wpAny_truthy_dict hS m (by omega) ⟨H,I.tok _,by rw[N1 r];exact q⟩
 |_=>exact(show False from e).elim
theorem So(ha:PE X a ta)(he:∀whole,isTrue a X.env whole=(do let v ←whole;standAt a.pos;holding [v] (truthy v))):
  PT X a (λσ H Q=>ta σ H λx H'=>∃k,aX X.K x H' k/\Q k H'):=by
 intro pins s σ H Q I h;exact isTrue_plain (thn (ha pins s σ H _ I h) λv s1 ⟨x,H1,I1,r1,q1⟩=>Xb pins s1 σ H1 x v Q I1 r1 q1) (he _)
theorem Nh:OpR X (binaryOp .Add) (λx y H Q=>∃i j,x=.str i/\y=.str j/\i.length+j.length<=sizeLine/\Q (.str (i++j)) H):=by
 intro pins s σ H x y v u Q I rx ry h;obtain⟨i,j,rfl,rfl,hz,q⟩:=h;obtain⟨t,rfl⟩:=rx;obtain⟨t',rfl⟩:=ry;exact add_str (λt' tk=>⟨.str (i++j),H,I.tok _,⟨_,rfl⟩,q⟩) hz
theorem Hi(r:Vals [x] us):∃u,us=[u]/\RelV x u:=by
 cases r with
 |cons r1 r2=>cases r2;exact⟨_,rfl,r1⟩
theorem Rs(r:Vals [x,y] us):∃u w',us=[u,w']/\RelV x u/\RelV y w':=by
 cases r with
 |cons r1 r2=>
  cases r2 with
  |cons r3 r4=>cases r4;exact⟨_,_,rfl,r1,r3⟩
theorem Q8(hc:X.calm=true):Bh X (.builtin "max") (λxs H Q=>∃i j,xs=[.int i,.int j]/\Q (.int (if j > i then j else i)) H):=by
 intro pins s σ H xs us Q I r h;obtain⟨i,j,rfl,q⟩:=h;obtain⟨u,w',rfl,⟨t,rfl⟩,⟨t',rfl⟩⟩:=Rs r;refine max_two_ints (I.ok.hd hc) λh' tk k=>⟨_,H,I.kept k,?_,q⟩;by_cases hj:j > i
 ·rw[if_pos hj,if_pos hj];exact⟨_,rfl⟩
 ·rw[if_neg hj,if_neg hj];exact⟨_,rfl⟩
theorem Q7(hc:X.calm=true):Bh X (.builtin "min") (λxs H Q=>∃i j,xs=[.int i,.int j]/\Q (.int (if j<i then j else i)) H):=by
 intro pins s σ H xs us Q I r h;obtain⟨i,j,rfl,q⟩:=h;obtain⟨u,w',rfl,⟨t,rfl⟩,⟨t',rfl⟩⟩:=Rs r;refine min_two_ints (I.ok.hd hc) λh' tk k=>⟨_,H,I.kept k,?_,q⟩;by_cases hj:j<i
 ·rw[if_pos hj,if_pos hj];exact⟨_,rfl⟩
 ·rw[if_neg hj,if_neg hj];exact⟨_,rfl⟩
def bx(K:PySem.W.Frag)(x:V)(H:Hp)(n:Nat):Prop:=
 match x with
 | .str y=>y.length<=sizeLine/\n=y.length
 | .byt y=>y.size<=sizeLine/\n=y.size
 | .ref p=>(∃xs,SqL K H p xs/\n=xs.length)∨∃xs,SqT K H p xs/\n=xs.length
 |_=>False
theorem UM:Bh X (.builtin "len") (λxs H Q=>∃x n,xs=[x]/\bx X.K x H n/\Q (.int n) H):=by
 intro pins s σ H xs us Q I r h;obtain⟨x,n,rfl,e,q⟩:=h;obtain⟨u,rfl,rx⟩:=Hi r;have hl:=Gm;have hs:sizeLine=16777216:=sizeLine_eq;cases x with
 |str y=>
  obtain⟨t,rfl⟩:=rx;obtain⟨hy,e'⟩:y.length<=sizeLine/\n=y.length:=e;subst e';exact len_str (by omega) ⟨.int _,H,I.tok _,⟨_,rfl⟩,q⟩
 |byt y=>
  obtain⟨t,rfl⟩:=rx;obtain⟨hy,e'⟩:y.size<=sizeLine/\n=y.size:=e;subst e';exact PySem.W.len_bytes (by omega) ⟨.int _,H,I.tok _,⟨_,rfl⟩,q⟩
 |ref p=>
  cases rx;have e':(∃xs,SqL X.K H p xs/\n=xs.length)∨∃xs,SqT X.K H p xs/\n=xs.length:=e;rcases e' with ⟨xs,hx,e'⟩|⟨xs,hx,e'⟩
  ·subst e';obtain⟨its,r',pl,hz⟩:=I.list hx;have hlen:=r'.length;exact Calls.call_len_list pl.isList (by simp only[List.size_toArray];omega) ⟨.int xs.length,H,I.tok _,⟨_,by simp only[List.size_toArray];rw[hlen]⟩,q⟩
  ·subst e';obtain⟨its,r',pl,hz⟩:=I.tuple hx;have hlen:=r'.length;exact len_tuple pl (by simp only[List.size_toArray];omega) ⟨.int xs.length,H,I.tok _,⟨_,by simp only[List.size_toArray];rw[hlen]⟩,q⟩
 |_=>exact(show False from e).elim
end
structure ObjM(h:Heap)(x dx C:Addr)(mA:Str->Option Value):Prop where
 obj:h.get? x=some (PySem.W.instObj C dx)
 ns:h.Ns1 dx mA
 ne:dx≠x
theorem Qk{h:Heap}{dx:Addr}{mA:Str->Option Value}(n:h.Ns1 dx mA):∃od,h.get? dx=some od/\∀name,PySem.W.lookIn name od=some (mA name):=by
 obtain⟨o,es,ep,ho,hd,hk,_,hm⟩:=n;refine⟨o,ho,λname=>?_⟩;have e:=hm name;unfold nsFind findBy at e;rw[←Array.find?_toList] at e;unfold PySem.W.lookIn;rw[hd];dsimp only;split
 ·rename_i y q;rw[q] at e;exact congrArg some e
 ·rename_i q;rw[q] at e;have a:es.toList.any (·.refKey)=false:=by
   rw[List.any_eq_false];intro y hy;obtain⟨z,t,hkey⟩:=hk y (Array.mem_toList_iff.mp hy);simp[DictEntry.refKey,hkey]
  have a':¬es.toList.any (·.refKey)=true:=by rw[a];exact AAg
  rw[if_neg a'];exact congrArg some e
theorem ObjM.look(I:ObjM h x dx C mA):∃od,PySem.W.InstAt h x (PySem.W.instObj C dx) C (some od)/\∀name,PySem.W.lookIn name od=some (mA name):=
 let ⟨od,ho,hl⟩:=Qk I.ns
 ⟨od,⟨I.obj,rfl,rfl,ho⟩,hl⟩
section
variable{prog:Program}{w:World}{A:Around}{E:Value->Shared->Prop}{s:Shared}{K:PySem.W.Frag}{x dx C f:Addr}{mA:Str->Option Value}{name:Str}{v:Value}
theorem WC(X:K.In s.heap)(I:ObjM s.heap x dx C mA)(hg:PySem.W.plainGet K C name=true)(hh:PySem.W.hasDictIn K C=true)
  (ha:PySem.W.findIn K (.ref C) name=some none) (hv:mA name=some v) (hv':PySem.W.handedIn v=true) (h:Q v { s with toks:=s.toks+1 }) :
  wpAny (model prog w) A (getAttr (.ref x) name expr) Q E s:=by
 obtain⟨od,J,hl⟩:=I.look;exact PySem.W.get_value X J (PySem.W.plainGet_of hg).1 (PySem.W.findObj_own hh ha rfl (by rw[hl,hv])) hv' h
theorem Tu(X:K.In s.heap)(I:ObjM s.heap x dx C mA)(hg:PySem.W.plainGet K C name=true)
  (hf:PySem.W.findIn K (.ref C) name=some (some (.ref f))) (ht:PySem.W.isFn K (.ref f)=true) (hv:mA name=none) (h:Q (.ref f,[.ref x]) s) :
  wpAny (model prog w) A (getMethod (.ref x) name pl) Q E s:=by
 obtain⟨od,J,hl⟩:=I.look;exact PySem.W.method_fn X J (PySem.W.plainGet_of hg).1 (PySem.W.plainGet_of hg).2 hf (beq_iff_eq.mp ht) (by show (PySem.W.lookIn name od).map (·.isSome)=some false;rw[hl,hv];rfl) h
theorem U5(X:K.In s.heap)(I:ObjM s.heap x dx C mA)
  (hs:PySem.W.findIn K (.ref C) "__setattr__" = some (some (.builtin "object.__setattr__"))) (hp:PySem.W.plainOver K C=true) (ht:PySem.W.takerIn K C name=some none) (hh:PySem.W.hasDictIn K C=true)
  (hw:PySem.Within mA ns) (hsz:ns.length<=sizeLine)
  (h:∀h',ObjM h' x dx C (λy=>if y=name then some v else mA y)->Heap.SameBut dx s.heap h'->Q () { s with heap:=h',toks:=s.toks+2 }) :
  wpAny (model prog w) A (setAttr (.ref x) name v) Q E s:=by
 obtain⟨od,J,hl⟩:=I.look;refine PySem.W.set_plain X J hs (PySem.W.osa_open (s:={ s with toks:=s.toks+1 }) (r:=none) X J hp ht λb=>?_);obtain⟨cd,hc,hd'⟩:=PySem.W.any_some hh;have hx:s.heap.get? x=some ⟨.ref C,some dx,.plain,#[]⟩:=I.obj;refine AAA (AAB (AAA (AAA (wpAny_loadPart hx (AAA (PySem.W.Looks.here (s:={ s with toks:=s.toks+1 }) (PySem.W.looks_clsIn X hc) ?_))))));rw[hd'];refine AAB (a:=some dx) (AAA (AAB (AAA ?_)));refine wpAny_nsSet1 (s:={ s with toks:=s.toks+1 }) I.ns λh' hn2 hs2=>?_;obtain⟨oD,esD,epD,hoD,hdD,hcD⟩:=hn2.count (PySem.Within.cons name v hw);refine AAA (wpAny_lookBehind hoD (by rw[hdD];exact pastItsLine_dict (AAs hcD (by rw[AAI];omega))) ?_);exact AAB (h _ ⟨(hs2.2 _ (Ne.symm I.ne)).trans I.obj,hn2,I.ne⟩ hs2)
theorem TZ(X:K.In s.heap)(hm:PySem.W.makesIn K C=true)
  (hi:PySem.W.findIn K (.ref C) "__init__" = some (some (.ref f))) (hf:PySem.W.typeIn K (.ref f)=some (.type "function"))
  (h:codeAny (model prog w) (A.under (.builtin "type.__call__" ⟨.ref C::vs,kw⟩)) (.call (.ref f) ⟨.ref (s.heap.objs.size+1)::vs,kw⟩) (PySem.W.InitBack (s.heap.objs.size+1) R)
   { s with heap:=(s.heap.push PySem.W.emptyDict).push (PySem.W.instObj C s.heap.objs.size) }) :
  codeAny (model prog w) A (.call (.ref C) ⟨vs,kw⟩) R s:=by
 obtain⟨hh,g,d,t,os⟩:=s;exact PySem.W.make_core (PySem.W.makes_of X hm) (PySem.W.looks_findIn X hi) (λself=>PySem.W.bind_fn X self hf) (.inl rfl) h
end
noncomputable def Dt(f:Str)(v:V):List (Str×V)->List (Str×V)
 |[]=>[(f,v)]
 |(g,x)::r=>if g=f then (g,v)::r else (g,x)::Dt f v r
theorem HJ(f g:Str)(v:V):∀fs:List (Str×V),(Dt f v fs).lookup g=if g=f then some v else fs.lookup g
 |[]=>by
  show List.lookup g [(f,v)]=_;by_cases h:g=f
  ·have hb:(g==f)=true:=beq_iff_eq.mpr h;simp only[List.lookup,hb,if_pos h]
  ·have hb:(g==f)=false:=AAf.mpr h;simp only[List.lookup,hb,if_neg h]
 |(k,x)::r=>by
  have ih:=HJ f g v r;rw[show Dt f v ((k,x)::r)=(if k=f then (k,v)::r else (k,x)::Dt f v r) from rfl];by_cases hk:k=f
  ·rw[if_pos hk];by_cases h:g=k
   ·have hb:(g==k)=true:=beq_iff_eq.mpr h;simp only[List.lookup,hb,if_pos (h.trans hk)]
   ·have hb:(g==k)=false:=AAf.mpr h;simp only[List.lookup,hb,if_neg (λe:g=f=>h (e.trans hk.symm))]
  ·rw[if_neg hk];by_cases h:g=k
   ·have hb:(g==k)=true:=beq_iff_eq.mpr h;simp only[List.lookup,hb,if_neg (λe:g=f=>hk (h.symm.trans e))]
   ·have hb:(g==k)=false:=AAf.mpr h;simp only[List.lookup,hb];exact ih
theorem Go(f:Str)(v:V):∀fs:List (Str×V),f∈(Dt f v fs).map (·.1)/\∀g,g∈fs.map (·.1)->g∈(Dt f v fs).map (·.1)
 |[]=>⟨by simp[Dt],λg h=>by simp at h⟩
 |(k,x)::r=>by
  obtain⟨i1,i2⟩:=Go f v r;rw[show Dt f v ((k,x)::r)=(if k=f then (k,v)::r else (k,x)::Dt f v r) from rfl];by_cases hk:k=f
  ·rw[if_pos hk];subst hk;exact⟨by simp,λg h=>by simpa using h⟩
  ·rw[if_neg hk];refine⟨?_,λg h=>?_⟩
   ·rw[AAX];exact AAR _ i1
   ·rw[AAX] at h ⊢;rcases AAJ.mp h with e|e
    ·exact AAJ.mpr (.inl e)
    ·exact AAR _ (i2 g e)
theorem HK(f:Str)(v:V):∀fs:List (Str×V),(Dt f v fs).length<=fs.length+1
 |[]=>by simp[Dt]
 |(k,x)::r=>by
  have ih:=HK f v r;rw[show Dt f v ((k,x)::r)=(if k=f then (k,v)::r else (k,x)::Dt f v r) from rfl];by_cases hk:k=f
  ·rw[if_pos hk,AAI,AAI];omega
  ·rw[if_neg hk,AAI,AAI];omega
theorem RelO.some_of(r:RelO (some v) o):∃u,o=some u/\RelV v u:=by
 cases o with
 |none=>exact(show False from r).elim
 |some u=>exact⟨u,rfl,r⟩
theorem RelO.none_of(r:RelO none o):o=none:=by
 cases o with
 |none=>rfl
 |some u=>exact(show False from r).elim
theorem Qv(r:RelV v u):PySem.W.handedIn u=true:=by
 cases v with
 |non=>cases (show u=Value.none from r);rfl
 |bl b=>cases (show u=Value.bool b from r);rfl
 |int i=>obtain⟨t,e⟩:=(show ∃t,u=Value.int i t from r);cases e;rfl
 |str x=>obtain⟨t,e⟩:=(show ∃t,u=Value.str x t from r);cases e;rfl
 |byt b=>obtain⟨t,e⟩:=(show ∃t,u=Value.bytes b t from r);cases e;rfl
 |flt b=>obtain⟨t,e⟩:=(show ∃t,u=Value.float b t from r);cases e;rfl
 |ref a=>cases (show u=Value.ref a from r);rfl
 |ty n=>cases (show u=Value.type n from r);rfl
section
variable{P:Program}{w:World}{H:Hp}{h:Heap}{a C dx:Addr}{fs:List (Str×V)}
theorem HY(hok:HOk P w H h)(e:H a=some (.ins C dx fs)):∃mA,ObjM h a dx C mA/\(∀f,RelO (fs.lookup f) (mA f))/\PySem.Within mA (fs.map (·.1))/\fs.length<=1000/\H dx=some (.own a):=by
 obtain⟨d,z,ne,ob,mA,n,r,q⟩:=(show ObjOk P w H h a (.ins C dx fs) from hok a _ e);exact⟨mA,⟨ob,n,ne⟩,r,q,z,d⟩
end
structure Cls(K:PySem.W.Frag)(C:Addr):Prop where
 pg:PySem.W.plainGet K C Str.empty=true
 hd:PySem.W.hasDictIn K C=true
 po:PySem.W.plainOver K C=true
 sa:PySem.W.findIn K (.ref C) "__setattr__" = some (some (.builtin "object.__setattr__"))
theorem Cls.get{K:PySem.W.Frag}{C:Addr}(c:Cls K C)(f:Str):PySem.W.plainGet K C f=true:=c.pg
def NoAttr(K:PySem.W.Frag)(C:Addr)(f:Str):Prop:=PySem.W.findIn K (.ref C) f=some none
theorem NoAttr.taker{K:PySem.W.Frag}{C:Addr}{f:Str}(n:NoAttr K C f):PySem.W.takerIn K C f=some none:=by
 unfold PySem.W.takerIn;rw[show PySem.W.findIn K (.ref C) f=some none from n];rfl
structure WV(K:PySem.W.Frag)(C:Addr)(m:Str)(f:Addr):Prop where
 at_:PySem.W.findIn K (.ref C) m=some (some (.ref f))
 fn:PySem.W.isFn K (.ref f)=true
 kp:PySem.W.keepIn K (.ref f)=true
section
variable{X:Cx}{pins:List (Addr×Obj)}{σ:St}{H:Hp}{s:Shared}{a C dx:Addr}{fs:List (Str×V)}{f:Str}{v:V}{A:Around}{E:Value->Shared->Prop}
theorem N3(I:Inv X pins σ H s)(e:H a=some (.ins C dx fs))(c:Cls X.K C)(n:NoAttr X.K C f)(l:fs.lookup f=some v)
  (h:∀u s',Inv X pins σ H s'->RelV v u->Q u s'):wpAny (model X.prog X.w) A (getAttr (.ref a) f b) Q E s:=by
 obtain⟨mA,O,r,_,_,_⟩:=HY I.hok e;obtain⟨u,hu,ru⟩:=RelO.some_of (v:=v) (o:=mA f) (by rw[←l];exact r f);exact WC I.kIn O (c.get f) c.hd n hu (Qv ru) (h u _ (I.tok _) ru)
theorem N2(I:Inv X pins σ H s)(e:H a=some (.ins C dx fs))(c:Cls X.K C)(k:WV X.K C m g)(l:fs.lookup m=none)
  (h:Q (.ref g,[.ref a]) s):wpAny (model X.prog X.w) A (getMethod (.ref a) m pl) Q E s:=by
 obtain⟨mA,O,r,_,_,_⟩:=HY I.hok e;have hn:mA m=none:=RelO.none_of (by rw[←l];exact r m);exact Tu I.kIn O (c.get m) k.at_ k.fn hn h
theorem NX(I:Inv X pins σ H s)(e:H a=some (.ins C dx fs))(c:Cls X.K C)(n:NoAttr X.K C f)(hl:fs.length<1000)(ry:RelV y u)
  (h:∀s',Inv X pins σ (upd H a (.ins C dx (Dt f y fs))) s'->Q () s'):wpAny (model X.prog X.w) A (setAttr (.ref a) f u) Q E s:=by
 obtain⟨mA,O,r,wi,_,ho⟩:=HY I.hok e;have hz:(fs.map (·.1)).length<=sizeLine:=by rw[AAG,sizeLine_eq];omega
 refine U5 I.kIn O c.sa c.po n.taker c.hd wi hz λh' O' sb=>h _ ?_;have hd:∃o,h'.get? dx=some o:=let ⟨o,_,_,e',_⟩:=O'.ns;⟨o,e'⟩
 refine I.write (x:=a) (e:=dx) (by rw[e];exact True.intro) (.inr ho) (λb q hb z=>(sb.2 b hb).trans z) hd ?_;refine⟨by rw[A5 O.ne];exact ho,?_,O.ne,O'.obj,_,O'.ns,λg=>?_,λg hg=>?_⟩
 ·have:=HK f y fs;omega
 ·show RelO ((Dt f y fs).lookup g) (if g=f then some u else mA g);rw[HJ];by_cases q:g=f
  ·rw[if_pos q,if_pos q];exact ry
  ·rw[if_neg q,if_neg q];exact r g
 ·by_cases q:g=f
  ·rw[q];exact(Go f y fs).1
  ·refine(Go f y fs).2 g (wi g λz=>hg ?_);show (if g=f then some u else mA g)=none;rw[if_neg q];exact z
theorem Inv.made(I:Inv X pins σ H s):Inv X pins σ (upd (upd H s.heap.objs.size (.own (s.heap.objs.size+1))) (s.heap.objs.size+1) (.ins C s.heap.objs.size []))
  { s with heap:=(s.heap.push PySem.W.emptyDict).push (PySem.W.instObj C s.heap.objs.size) }:=by
 have e1:(s.heap.push PySem.W.emptyDict).get? s.heap.objs.size=some PySem.W.emptyDict:=AAD s.heap rfl;have e2:((s.heap.push PySem.W.emptyDict).push (PySem.W.instObj C s.heap.objs.size)).get? (s.heap.objs.size+1)=some (PySem.W.instObj C s.heap.objs.size):=by
  have:=AAD (s.heap.push PySem.W.emptyDict) (o:=PySem.W.instObj C s.heap.objs.size) rfl
  rwa [Heap.size_push] at this
 have e3:(s.heap.push PySem.W.emptyDict).Ns s.heap.objs.size (λ_=>none):=⟨PySem.W.emptyDict,#[],_,e1,rfl,(λe he=>absurd he (by simp)),λ_=>rfl⟩;have I1:=I.laid (a:=s.heap.objs.size) (o:=.own (s.heap.objs.size+1)) (h':=s.heap.push PySem.W.emptyDict) (t':=s.toks) (λb u q=>AAC _ q) (AAF _) ⟨_,e1⟩;refine I1.laid (a:=s.heap.objs.size+1) (o:=.ins C s.heap.objs.size []) (t':=s.toks) (λb u q=>AAC _ q) (Nat.le_of_eq (Heap.size_push _ _)) ?_;have ne:s.heap.objs.size≠s.heap.objs.size+1:=AAe (Nat.lt_succ_self _);refine⟨by rw[A5 ne,BJ],AAk _,ne,e2,λ_=>none,(Heap.Ns1.of_empty e3).at λo q=>AAC _ q,λ_=>True.intro,λy hy=>absurd rfl hy⟩
theorem WS(hb:attributeBase e f env (eval e env)=eval e env)
  (h:wpAny (model prog w) A (eval e env) (λo s₁=>wpAny (model prog w) A (getAttr o f true) Q E s₁) E s):wpAny (model prog w) A (eval (.Attribute e f pos) env) Q E s:=
 Attribute_any_ h (by rw[arm_eval_Attribute,hb])
end
noncomputable def av(K:PySem.W.Frag)(ta:TE)(f:Str):TE:=λσ H Q=>ta σ H λx H1=>∃a C dx fs v,x=.ref a/\H1 a=some (.ins C dx fs)/\Cls K C/\NoAttr K C f/\fs.lookup f=some v/\Q v H1
noncomputable def ay(K:PySem.W.Frag)(ta tv:TE)(f:Str):TS:=λD σ H=>tv σ H λy H1=>ta σ H1 λx H2=>∃a C dx fs,x=.ref a/\H2 a=some (.ins C dx fs)/\Cls K C/\NoAttr K C f/\fs.length<1000 /\
 D.nx σ (upd H2 a (.ins C dx (Dt f y fs)))
section
variable{X:Cx}{o e value:Expr}{f:Str}{pos pos':Pos}{ta tv:TE}
theorem YC(he:PE X e ta)(hb:attributeBase e f X.env (eval e X.env)=eval e X.env):PE X (.Attribute e f pos) (av X.K ta f):=by
 intro pins s σ H Q I h;refine WS hb (thn (he pins s σ H _ I h) λu s1 ⟨x,H1,I1,rx,a,C,dx,fs,v,ex,ea,c,n,l,q⟩=>?_);subst ex;obtain rfl:u=Value.ref a:=rx;exact N3 I1 ea c n l λu' s2 I2 ru=>⟨v,H1,I2,ru,q⟩
theorem Xz(ha:PE X o ta)(hv:PE X value tv)(hs:swapsWith value (some (.Attribute o f pos')) pos.line X.env=pure false):PS X (.Assign [.Attribute o f pos'] value pos) (ay X.K ta tv f):=by
 intro pins s σ H D I h;refine plainObj_wpAny_Assign_Attribute (thn (hv pins s σ H _ I h) λu s1 ⟨y,H1,I1,ry,q⟩=>thn (ha pins s1 σ H1 _ I1 q) λov s2 ⟨x,H2,I2,rx,a,C,dx,fs,ex,ea,c,n,l,q2⟩=>?_) hs;subst ex;obtain rfl:ov=Value.ref a:=rx;exact NX I2 ea c n l ry λs3 I3=>⟨σ,_,I3,q2⟩
end
section
variable{X:Cx}{pins:List (Addr×Obj)}{σ:St}{H:Hp}{s:Shared}{A:Around}{E:Value->Shared->Prop}{Q:Value->Shared->Prop}{c:Value}{b:Bool}
inductive GS (K:PySem.W.Frag) (H:Hp):V->Value->Prop where
 |non:GS K H .non (.type "NoneType")
 |bl (x:Bool):GS K H (.bl x) (.type "bool")
 |int (i:Int):GS K H (.int i) (.type "int")
 |str (x:Str):GS K H (.str x) (.type "str")
 |flt (x:UInt64):GS K H (.flt x) (.type "float")
 |lst {a:Addr} {xs:List V} (e:H a=some (.lst xs)):GS K H (.ref a) (.type "list")
 |frz {a:Addr} {o:Obj} {xs:List V} (e:H a=some (.frz o (.lst xs))):GS K H (.ref a) (.type "list")
 |tup {a:Addr} {xs:List V} (e:H a=some (.tup xs)):GS K H (.ref a) (.type "tuple")
 |dK {a:Addr} {kvs:List (Key×V)} (e:H a=some (.dK kvs)):GS K H (.ref a) (.type "dict")
 |dT {a:Addr} {kvs:List (List Key×V)} (e:H a=some (.dT kvs)):GS K H (.ref a) (.type "dict")
 |ins {a C dx:Addr} {fs:List (Str×V)} (e:H a=some (.ins C dx fs)) (cl:Cls K C) (ha:PySem.W.findIn K (.ref C) "__class__" = some (some (.builtin "object.__class__")))
   (hn:PySem.W.specialIn K (.builtin "object.__class__") "__get__" = some (some (.builtin "getset_descriptor.__get__"))) (htk:PySem.W.takesIn K (.builtin "object.__class__")=some true)
   (hm:PySem.W.mroIn K C (.type "object")=some true):GS K H (.ref a) (.ref C)
theorem Qo(I:Inv X pins σ H s)(rx:RelV x u)(ty:GS X.K H x t)(e:PySem.W.kitOne X.K t c=some b)(h:∀tk,Q (.bool b) { s with toks:=tk }):
  wpAny (model X.prog X.w) A (call (.builtin "isinstance") [u,c]) Q E s:=by
 cases ty with
 |non=>cases (show u=Value.none from rx);exact PySem.W.kia_one PySem.W.kitx_none I.kIn True.intro e (λz=>nomatch z) h
 |bl y=>cases (show u=Value.bool y from rx);exact PySem.W.kia_one PySem.W.kitx_bool I.kIn True.intro e (λz=>nomatch z) h
 |int i=>obtain⟨t,q⟩:=(show ∃t,u=Value.int i t from rx);cases q;exact PySem.W.kia_one PySem.W.kitx_int I.kIn True.intro e (λz=>nomatch z) h
 |str y=>obtain⟨t,q⟩:=(show ∃t,u=Value.str y t from rx);cases q;exact PySem.W.kia_one PySem.W.kitx_str I.kIn True.intro e (λz=>nomatch z) h
 |flt y=>obtain⟨t,q⟩:=(show ∃t,u=Value.float y t from rx);cases q;exact PySem.W.kia_one PySem.W.kitx_float I.kIn True.intro e (λz=>nomatch z) h
 |@lst a xs ea=>
  cases (show u=Value.ref a from rx);obtain⟨_,_,n,_,h1⟩:=(show ObjOk X.prog X.w H s.heap a (.lst xs) from I.hok a _ ea);exact PySem.W.kia_one PySem.W.kitx_list I.kIn ⟨_,h1,rfl⟩ e (λz=>nomatch z) h
 |@frz a ob xs ea=>
  cases (show u=Value.ref a from rx);obtain⟨_,_,_,n,_,h1⟩:=(show ObjOk X.prog X.w H s.heap a (.frz ob (.lst xs)) from I.hok a _ ea);exact PySem.W.kia_one PySem.W.kitx_list I.kIn ⟨_,h1,rfl⟩ e (λz=>nomatch z) h
 |@tup a xs ea=>
  cases (show u=Value.ref a from rx);obtain⟨_,_,_,p⟩:=(show ObjOk X.prog X.w H s.heap a (.tup xs) from I.hok a _ ea);obtain⟨o,h1,h2,_⟩:=p;exact PySem.W.kia_one PySem.W.kitx_tuple I.kIn ⟨o,h1,h2⟩ e (λz=>nomatch z) h
 |@dK a kvs ea=>
  cases (show u=Value.ref a from rx);obtain⟨_,_,vs,_,p⟩:=(show ObjOk X.prog X.w H s.heap a (.dK kvs) from I.hok a _ ea);obtain⟨o,es,ep,h1,h2,_⟩:=p;exact PySem.W.kia_one PySem.W.kitx_dict I.kIn ⟨o,h1,h2.1⟩ e (λz=>nomatch z) h
 |@dT a kvs ea=>
  cases (show u=Value.ref a from rx);obtain⟨_,_,xs,_,o,es,ep,h1,h2,_⟩:=(show ObjOk X.prog X.w H s.heap a (.dT kvs) from I.hok a _ ea);exact PySem.W.kia_one PySem.W.kitx_dict I.kIn ⟨o,h1,h2.1⟩ e (λz=>nomatch z) h
 |@ins a C dx fs ea cl ha hn htk hm=>
  cases (show u=Value.ref a from rx);obtain⟨mA,O,_⟩:=HY I.hok ea;obtain⟨od,J,_⟩:=O.look;exact PySem.W.kia_one (PySem.W.kitx_own (cl.get _) cl.hd ha hn htk hm) I.kIn J e (λz=>nomatch z) h
end
structure Room(k:Nat)(A:Around):Prop where
 hd:A.handled=none
 dp:A.depth+3 * k+5<recursionLimit
 un:A.units+16 * k+200<cLine
theorem Room.mono(r:Room k A)(h:j<=k):Room j A:=⟨r.hd,by have:=r.dp;omega,by have:=r.un;omega⟩
theorem Room.deeper(r:Room (k+1) A)(env:Env):Room k (A.deeper env):=
 ⟨r.hd,by have:=r.dp;show A.depth+1+3 * k+5<_;omega,by have:=r.un;show A.units+3+16 * k+200<_;omega⟩
theorem Np{A:Around}{us:List Value}{kw:List (Str×Value)}:(A.under (.builtin "type.__call__" ⟨.ref C::us,kw⟩)).depth=A.depth+1:=by
 first|rfl|simp[Around.under,Code.weight,Code.isCreation,Code.isGuard,Code.isCaller,Code.frames,Code.isFrame,guardIds]
theorem No{A:Around}{C:Addr}:(A.under (.builtin "type.__call__" ⟨.ref C::us,kw⟩)).units=A.units+1:=by
 first|rfl|simp[Around.under,Code.cUnits,Code.frames,Code.isFrame]
theorem Room.make(r:Room (k+1) A)(C:Addr)(us:List Value)(kw:List (Str×Value)):Room k (A.under (.builtin "type.__call__" ⟨.ref C::us,kw⟩)):=
 ⟨r.hd,by have:=r.dp;rw[Np];omega,by have:=r.un;rw[No];omega⟩
theorem Room.depth(r:Room k A):A.depth<recursionLimit:=by have:=r.dp;omega
theorem Room.units(r:Room k A):A.units+64<cLine:=by have:=r.un;omega
noncomputable def ao:TA:=λ_ H Q=>Q [] H
noncomputable def Za(ta:TE)(tr:TA):TA:=λσ H Q=>ta σ H λx H1=>tr σ H1 λxs H2=>Q (x::xs) H2
section
variable{X:Cx}{e:Expr}{es:List Expr}{te:TE}{t:TA}{pos:Pos}
theorem Fe:PA X [] ao:=λ_ _ _ _ H Q I h=>Calls.spliced_nil ⟨[],H,I,.nil,h⟩
theorem Du(ha:PE X e te)(hr:PA X es t)(hs:starEach (e::es) X.env=(false,eval e X.env)::starEach es X.env:=by rfl):PA X (e::es) (Za te t):=by
 intro pos pins s σ H Q I h;rw[hs];show wpAny _ _ (spliced ((false,eval e X.env)::backTo pos (starEach es X.env))) _ _ s;refine Calls.spliced_cons (thn (ha pins s σ H _ I h) λu s1 ⟨x,H1,I1,r1,q1⟩=>?_);exact thn (hr pos pins s1 σ H1 _ I1 q1) λus s2 ⟨xs,H2,I2,r2,q2⟩=>⟨x::xs,H2,I2,.cons r1 r2,q2⟩
noncomputable def af(t:TA):TE:=λσ H Q=>t σ H λxs H1=>xs.length<=sizeLine/\∀p,H1 p=none->Q (.ref p) (upd H1 p (.tup xs))
noncomputable def aq(t:TA):TE:=λσ H Q=>t σ H λxs H1=>xs.length<=sizeLine/\∀p,H1 p=none->Q (.ref p) (upd H1 p (.lst xs))
theorem X5(h:PA X es t):PE X (.Tuple es x1 pos) (af t):=by
 intro pins s σ H Q I hq;refine wpAny_Tuple_spliced (thn (h pos pins s σ H _ I hq) λus s1 ⟨xs,H1,I1,r,z,q⟩=>⟨by rw[←r.length];exact z,?_⟩);have hf:H1 s1.heap.objs.size=none:=I1.hok.fresh (AAF _);refine⟨.ref s1.heap.objs.size,upd H1 s1.heap.objs.size (.tup xs),I1.laid (t':=s1.toks) (λb u e=>AAC _ e) (AAF _) ?_,rfl,q _ hf⟩;exact⟨z,us,r,⟨_,AAD _ rfl,rfl,_,rfl⟩⟩
theorem TB(h:PA X es t):PE X (.List es pos) (aq t):=by
 intro pins s σ H Q I hq;refine wpAny_List_spliced (thn (h pos pins s σ H _ I hq) λus s1 ⟨xs,H1,I1,r,z,q⟩=>⟨by rw[←r.length];exact z,?_⟩);have hf:H1 s1.heap.objs.size=none:=I1.hok.fresh (AAF _);refine⟨.ref s1.heap.objs.size,upd H1 s1.heap.objs.size (.lst xs),I1.laid (t':=s1.toks) (λb u e=>AAC _ e) (AAF _) ?_,rfl,q _ hf⟩;exact⟨z,us,0,r,AAD _ rfl⟩
end
noncomputable abbrev Sp:=List V->Hp->VK->XK->Prop
noncomputable abbrev CXT:=List Env->Hp->Shared->XK->Value->Shared->Prop
structure Env0(P:Program)(w:World)(K:PySem.W.Frag)(mg:Str->Option Value)(base:Heap)(A:Around)(outer:List Env)(s:Shared)(H:Hp):Prop where
 frames:A.frames=some outer
 mod:Mod K mg base
 bs:∀b o,base.get? b=some o->s.heap.get? b=some o/\H b=none
 bsz:base.objs.size<=s.heap.objs.size
 funs:s.heap.FunFrames base outer
 frf:∀b∈frs outer,H b=none
 hok:HOk P w H s.heap
 bare:AllBare s.gens
def CE(outer:List Env)(P:Program)(w:World)(H:Hp)(s:Shared)(Q:VK)(u:Value)(s':Shared):Prop:=
 ∃v H',s'.os=s.os/\AllBare s'.gens/\Un (frs outer) [] H H' s.heap s'.heap/\HOk P w H' s'.heap/\RelV v u/\Q v H'
def CR(CX:CXT)(outer:List Env)(P:Program)(w:World)(H:Hp)(s:Shared)(Q:VK)(E:XK)(r:Result)(s':Shared):Prop:=
 match r with
 | .ok (.ret u)=>CE outer P w H s Q u s'
 | .ok _=>False
 | .error e=>CX outer H s E e s'
structure FnOk(P:Program)(w:World)(K:PySem.W.Frag)(mg:Str->Option Value)(base:Heap)(CX:CXT)(k:Nat)(f:Addr)(fd:FuncData)(ps:List Str)(sp:Sp):Prop where
 len:∀vs H Q E,sp vs H Q E->vs.length=ps.length
 run:∀(A:Around) (outer:List Env) (s:Shared) (H:Hp) (args:Args) (us:List Value) (vs:List V) (Q:VK) (E:XK),Room k A->Env0 P w K mg base A outer s H->BindsTo s fd args (ps.zip us)->Vals vs us->sp vs H Q E->
  codeAny (model P w) A (.call (.ref f) args) (CR CX outer P w H s Q E) s
theorem FnOk.mono{P:Program}{w:World}{K:PySem.W.Frag}{mg:Str->Option Value}{base:Heap}(F:FnOk P w K mg base CX j f fd ps sp)(h:j<=k):
  FnOk P w K mg base CX k f fd ps sp:=⟨F.len,λA outer s H args us vs Q E hr=>F.run A outer s H args us vs Q E (hr.mono h)⟩
theorem FnOk.imp{P:Program}{w:World}{K:PySem.W.Frag}{mg:Str->Option Value}{base:Heap}(F:FnOk P w K mg base CX k f fd ps sp)
  (h:∀vs H Q E,sp' vs H Q E->sp vs H Q E):FnOk P w K mg base CX k f fd ps sp':=
 ⟨λvs H Q E q=>F.len vs H Q E (h _ _ _ _ q),λA outer s H args us vs Q E hr he hb hv hs=>F.run A outer s H args us vs Q E hr he hb hv (h _ _ _ _ hs)⟩
theorem Env0.make{P:Program}{w:World}{K:PySem.W.Frag}{mg:Str->Option Value}(e:Env0 P w K mg base A outer s H)(C:Addr)(us:List Value)(kw:List (Str×Value)):
  Env0 P w K mg base (A.under (.builtin "type.__call__" ⟨.ref C::us,kw⟩)) outer s H:=⟨by first|exact e.frames|(simpa[Around.under,Code.envs,Code.isFrame,pushEnvs] using e.frames),e.mod,e.bs,e.bsz,e.funs,e.frf,e.hok,e.bare⟩
section
variable{X:Cx}{pins:List (Addr×Obj)}{σ:St}{H:Hp}{s s':Shared}
theorem Inv.env0(I:Inv X pins σ H s):Env0 X.prog X.w X.K X.mg X.base X.A X.stack s H:=
 ⟨I.ok.frames,I.ok.mod,I.bs,AAs I.ok.bsz I.sz,I.stack,I.stkFree,I.hok,I.bare⟩
theorem Inv.after(I:Inv X pins σ H s)(h:CE X.stack X.prog X.w H s Q u s'):EP X pins σ Q u s':=by
 obtain⟨v,H',os,bare,un,hok,r,q⟩:=h;obtain⟨hh,g,d,t,os'⟩:=s';obtain rfl:os'=s.os:=os;exact⟨v,H',I.call (h':=hh) (g':=g) (d':=d) (t':=t) (ch:=[]) un hok bare (λb z=>absurd z (by simp)),r,q⟩
end
noncomputable def Zb(sp:Sp)(dvs:List V)(E:XK)(t:TA):TE:=λσ H Q=>t σ H λvs H1=>sp (vs++dvs) H1 Q E
noncomputable def ZU(C:Addr)(m:Str)(sp:Sp)(dvs:List V)(E:XK)(ta:TE)(t:TA):TE:=λσ H Q=>ta σ H λx H1=>∃a dx fs,x=.ref a/\H1 a=some (.ins C dx fs)/\fs.lookup m=none /\
 t σ H1 λvs H2=>sp (x::(vs++dvs)) H2 Q E
noncomputable def ZV(C:Addr)(sp:Sp)(dvs:List V)(E:XK)(t:TA):TE:=λσ H Q=>t σ H λvs H1=>∀x dx,H1 x=none->H1 dx=none->dx≠x->
 sp (.ref x::(vs++dvs)) (upd (upd H1 dx (.own x)) x (.ins C dx [])) (λv H2=>v=.non/\Q (.ref x) H2) E
def Binds(K:PySem.W.Frag)(fd:FuncData)(ps:List Str)(ds:List Value):Prop:=
 ∀(s:Shared) (us:List Value),K.In s.heap->(us++ds).length=ps.length->BindsTo s fd ⟨us,[]⟩ (ps.zip (us++ds))
theorem Binds.all{K:PySem.W.Frag}(h:∀us:List Value,us.length=ps.length->bindArgs fd ⟨us,[]⟩=pure (ps.zip us)):Binds K fd ps []:=λs us _ hl=>by
 rw[AAa] at hl ⊢;exact .of_eq (h us hl)
def G6(CX:CXT)(X:Cx)(E:XK):Prop:=∀(pins:List (Addr×Obj)) (σ:St) (H:Hp) (s:Shared) (e:Value) (s':Shared),Inv X pins σ H s->CX X.stack H s E e s'->X.xe e s'
section
variable{X:Cx}{CX:CXT}{k:Nat}{f C:Addr}{fd:FuncData}{ps:List Str}{sp:Sp}{dvs:List V}{ds:List Value}{E:XK}{x m:Str}{p pos apos:Pos}{e o:Expr}{es:List Expr}{ta:TE}{t:TA}
theorem SS(F:FnOk X.prog X.w X.K X.mg X.base CX k f fd ps sp)(hr:Room k X.A)(hb:Binds X.K fd ps ds)(hd:Vals dvs ds)(hx:G6 CX X E)
  (I:Inv X pins σ H s) (r:Vals vs us) (h:sp (vs++dvs) H Q E):wpAny (model X.prog X.w) X.A (call (.ref f) us) (EP X pins σ Q) X.xe s:=by
 have r2:Vals (vs++dvs) (us++ds):=r.append hd;have hl:(us++ds).length=ps.length:=by rw[←r2.length];exact F.len _ _ _ _ h
 refine wpAny_call (codeAny_mono (F.run X.A X.stack s H ⟨us,[]⟩ (us++ds) (vs++dvs) Q E hr I.env0 (hb s us I.kIn hl) r2 h) λr s' hq=>?_);cases r with
 |error e=>exact hx pins σ H s e s' I hq
 |ok fl=>
  cases fl with
  |ret u=>exact I.after hq
  |next=>exact False.elim hq
  |brk=>exact False.elim hq
  |cont=>exact False.elim hq
theorem Vj(F:FnOk X.prog X.w X.K X.mg X.base CX k f fd ps sp)(hr:Room k X.A)(hg:Gl X x)(hm:X.mg x=some (.ref f))(hk:PySem.W.keepIn X.K (.ref f)=true)(hb:Binds X.K fd ps ds)(hd:Vals dvs ds)(hx:G6 CX X E)
  (ha:PA X (e::es) t) (hdb:(x==("__debug__" : Str))=false:=by decide) (he:starEach (e::es) X.env=(false,eval e X.env)::starEach es X.env:=by rfl) (hpl:(backTo pos (starEach es X.env)).any (·.1)=false:=by rfl) :
  PE X (.Call (.Name x p) (e::es) [] pos) (Zb sp dvs E t):=by
 intro pins s σ H Q I h;refine wpAny_Call_Name_kw (K6 I hg hm ?_ hdb);refine PySem.W.callWith_K (h₀:=X.base) I.ok.mod.kin hk (thn (ha pos pins s σ H _ I h) λus s1 ⟨vs,H1,I1,r,q⟩=>⟨I1.kIn,?_⟩) he hpl;exact SS F hr hb hd hx I1 r q
theorem Vc(he:PE X o ta)(c:Cls X.K C)(hm:WV X.K C m f)(F:FnOk X.prog X.w X.K X.mg X.base CX k f fd ps sp)(hr:Room k X.A)(hb:Binds X.K fd ps ds)(hd:Vals dvs ds)(hx:G6 CX X E)(ha:PA X (e::es) t)
  (hst:starEach (e::es) X.env=(false,eval e X.env)::starEach es X.env:=by rfl) (hpl:(backTo pos (starEach es X.env)).any (·.1)=false:=by rfl)
  (ht:eval (.Call (.Attribute o m apos) (e::es) [] pos) X.env=(do
   let ov ←eval o X.env
   standAt apos.atName
   let (f,first) ←holding [ov] (getMethod ov m pl)
   callWith pos f first (backTo pos (starEach (e::es) X.env)) (backToKw pos (keywordEach [] X.env))):=by rfl) :
  PE X (.Call (.Attribute o m apos) (e::es) [] pos) (ZU C m sp dvs E ta t):=by
 intro pins s σ H Q I h;refine PySem.W.methodCall_KW (pl:=pl) (thn (he pins s σ H _ I h) λu s1 ⟨x,H1,I1,rx,a,dx,fs,ex,ea,l,q⟩=>?_) ht;subst ex;obtain rfl:u=Value.ref a:=rx;refine N2 I1 ea c hm l ?_;refine PySem.W.callWith_K (first:=[.ref a]) (h₀:=X.base) I.ok.mod.kin hm.kp (thn (ha pos pins s1 σ H1 _ I1 q) λus s2 ⟨vs,H2,I2,r,q2⟩=>⟨I2.kIn,?_⟩) hst hpl;exact SS (us:=.ref a::us) (vs:=.ref a::vs) F hr hb hd hx I2 (.cons rfl r) q2
structure Mk(K:PySem.W.Frag)(C f:Addr):Prop where
 makes:PySem.W.makesIn K C=true
 init:PySem.W.findIn K (.ref C) "__init__" = some (some (.ref f))
 fn:PySem.W.isFn K (.ref f)=true
 kp:PySem.W.keepIn K (.ref C)=true
theorem SR(M:Mk X.K C f)(F:FnOk X.prog X.w X.K X.mg X.base CX k f fd ps sp)(hr:Room (k+1) X.A)(hb:Binds X.K fd ps ds)(hd:Vals dvs ds)
  (hx:G6 CX X E) (I:Inv X pins σ H s) (r:Vals vs us)
  (h:∀x dx,H x=none->H dx=none->dx≠x->sp (.ref x::(vs++dvs)) (upd (upd H dx (.own x)) x (.ins C dx [])) (λv H2=>v=.non/\Q (.ref x) H2) E) :
  wpAny (model X.prog X.w) X.A (call (.ref C) us) (EP X pins σ Q) X.xe s:=by
 have hq:=h (s.heap.objs.size+1) s.heap.objs.size (I.hok.fresh (Nat.le_succ _)) (I.hok.fresh (AAF _)) (AAe (Nat.lt_succ_self _));have I2:=Inv.made (C:=C) I;have r2:Vals (V.ref (s.heap.objs.size+1)::(vs++dvs)) (Value.ref (s.heap.objs.size+1)::(us++ds)):=.cons rfl (r.append hd);have hl:(Value.ref (s.heap.objs.size+1)::us++ds).length=ps.length:=by
  have e:=r2.length;rw[F.len _ _ _ _ hq] at e;exact e.symm
 refine wpAny_call (TZ (f:=f) I.kIn M.makes M.init (beq_iff_eq.mp M.fn) (codeAny_mono (F.run _ X.stack _ _ ⟨Value.ref (s.heap.objs.size+1)::us,[]⟩ (Value.ref (s.heap.objs.size+1)::(us++ds)) _ _ E (hr.make C us [])
  (I2.env0.make C us []) (hb _ (Value.ref (s.heap.objs.size+1)::us) I2.kIn hl) r2 hq) λr s' hq'=>?_))
 cases r with
 |error e=>exact hx pins σ _ _ e s' I2 hq'
 |ok fl=>
  cases fl with
  |ret u=>
   obtain⟨v,H',I3,rv,ev,q3⟩:=I2.after hq';subst ev;exact⟨rv,⟨V.ref (s.heap.objs.size+1),H',I3,rfl,q3⟩⟩
  |next=>exact False.elim hq'
  |brk=>exact False.elim hq'
  |cont=>exact False.elim hq'
theorem Vd(M:Mk X.K C f)(F:FnOk X.prog X.w X.K X.mg X.base CX k f fd ps sp)(hr:Room (k+1) X.A)(hg:Gl X x)(hm:X.mg x=some (.ref C))(hb:Binds X.K fd ps ds)(hd:Vals dvs ds)(hx:G6 CX X E)
  (ha:PA X (e::es) t) (hdb:(x==("__debug__" : Str))=false:=by decide) (he:starEach (e::es) X.env=(false,eval e X.env)::starEach es X.env:=by rfl) (hpl:(backTo pos (starEach es X.env)).any (·.1)=false:=by rfl) :
  PE X (.Call (.Name x p) (e::es) [] pos) (ZV C sp dvs E t):=by
 intro pins s σ H Q I h;refine wpAny_Call_Name_kw (K6 I hg hm ?_ hdb);refine PySem.W.callWith_K (h₀:=X.base) I.ok.mod.kin M.kp (thn (ha pos pins s σ H _ I h) λus s1 ⟨vs,H1,I1,r,q⟩=>⟨I1.kIn,?_⟩) he hpl;exact SR M F hr hb hd hx I1 r q
end
structure Ae(N P:List Str)(sc:Scope):Prop where
 kind:sc.kind=.function
 co:sc.isCoroutine=false
 gen:sc.isGenerator=false
 nd:N.Nodup
 pre:N.take P.length=P
 par:∀x∈P,sc.names.lookup x=some .local∨sc.names.lookup x=some .cell
 nofree:∀y∈sc.names,y.2≠.free
theorem KP{kindOf:Str->Option NameKind}:∀{binds:List (Str×Value)} {m:Str->Option Value},(∀v,(x,v)∉binds)->bindL kindOf binds m x=m x
 |[],_,_=>rfl
 |(n,v)::r,m,h=>by
  unfold bindL;rw[KP λw hw=>h w (AAR _ hw)];split
  ·have:x≠n:=by rintro rfl;exact h v AAQ
   simp[this]
  ·rfl
theorem KR{kindOf:Str->Option NameKind}:∀{binds:List (Str×Value)} {m:Str->Option Value},(∀v,(x,v)∉binds)->bindC kindOf binds m x=m x
 |[],_,_=>rfl
 |(n,v)::r,m,h=>by
  unfold bindC;rw[KR λw hw=>h w (AAR _ hw)];split
  ·rfl
  ·have:x≠n:=by rintro rfl;exact h v AAQ
   simp[this]
theorem KQ{kindOf:Str->Option NameKind}:∀{P:List Str} {vs:List Value} {i:Nat} {m:Str->Option Value},P.Nodup->P[i]?=some x->vs[i]?=some v->kindOf x=some .local->
  bindL kindOf (P.zip vs) m x=some v
 |[],_,_,_,_,h,_,_=>by simp at h
 |_::_,[],_,_,_,_,h,_=>by simp at h
 |p::P,w::vs,0,m,nd,h1,h2,hk=>by
  simp at h1 h2;subst h1;subst h2;show bindL kindOf ((p,w)::P.zip vs) m p=_;unfold bindL;rw[KP λv hv=>(List.nodup_cons.mp nd).1 (List.of_mem_zip hv).1,if_pos hk];simp
 |p::P,w::vs,i+1,m,nd,h1,h2,hk=>by
  show bindL kindOf ((p,w)::P.zip vs) m x=_;unfold bindL;exact KQ (i:=i) (List.nodup_cons.mp nd).2 (by simpa using h1) (by simpa using h2) hk
theorem KS{kindOf:Str->Option NameKind}:∀{P:List Str} {vs:List Value} {i:Nat} {m:Str->Option Value},P.Nodup->P[i]?=some x->vs[i]?=some v->kindOf x≠some .local->
  bindC kindOf (P.zip vs) m x=some v
 |[],_,_,_,_,h,_,_=>by simp at h
 |_::_,[],_,_,_,_,h,_=>by simp at h
 |p::P,w::vs,0,m,nd,h1,h2,hk=>by
  simp at h1 h2;subst h1;subst h2;show bindC kindOf ((p,w)::P.zip vs) m p=_;unfold bindC;rw[KR λv hv=>(List.nodup_cons.mp nd).1 (List.of_mem_zip hv).1,if_neg hk];simp
 |p::P,w::vs,i+1,m,nd,h1,h2,hk=>by
  show bindC kindOf ((p,w)::P.zip vs) m x=_;unfold bindC;exact KS (i:=i) (List.nodup_cons.mp nd).2 (by simpa using h1) (by simpa using h2) hk
noncomputable def start(N:List Str)(vs:List V):St:=vs.map some++List.replicate (N.length-vs.length) none
noncomputable def Iv(CX:CXT)(P:Program)(w:World)(K:PySem.W.Frag)(mg:Str->Option Value)(base:Heap)(N:List Str)(qual:Str)(scope:Scope)(f:Addr)(cd:Value)(A:Around)(outer:List Env)(s:Shared)(H:Hp)(E:XK):Cx where
 prog:=P
 w:=w
 K:=K
 mg:=mg
 base:=base
 A:=A.deeper (envOfC qual scope s.heap.objs.size f cd)
 N:=N
 s₀:=s
 H₀:=H
 env:=envOfC qual scope s.heap.objs.size f cd
 outer:=outer
 stack:=envOfC qual scope s.heap.objs.size f cd::outer
 ex:=[]
 calm:=true
 fn:=λ_=>true
 pn:=[]
 xe:=λe s'=>wpAny (model P w) (A.deeper (envOfC qual scope s.heap.objs.size f cd)) (leaving (envOfC qual scope s.heap.objs.size f cd) e) (λ_ s''=>CX outer H s E e s'') (λe' s''=>CX outer H s E e' s'') s'
theorem M0{sc:Scope}(h:sc.names.lookup x=some .cell):∃c,(cellsFrom n sc.names []).lookup x=some c:=by
 have q:=PySem.W.cellsFrom_some sc.names n [] (.inl h);exact Option.isSome_iff_exists.mp q
theorem Qp{CX:CXT}{P:Program}{w:World}{K:PySem.W.Frag}{mg:Str->Option Value}{base:Heap}{N ps:List Str}{qual:Str}{scope:Scope}
  (S:Ae N ps scope) (hd:A.handled=none) (e0:Env0 P w K mg base A outer s H) (hl:vs.length=ps.length) (r:Vals vs us)
  (x:InCallC s s.heap.objs.size (bindL (envOfC qual scope s.heap.objs.size f cd).kindOf (ps.zip us) λ_=>none) (cellsFrom (s.heap.objs.size+1) scope.names []) (bindC (envOfC qual scope s.heap.objs.size f cd).kindOf (ps.zip us) λ_=>none) s1) :
  Inv (Iv CX P w K mg base N qual scope f cd A outer s H E) [] (start N vs) H s1:=by
 have hpl:ps.length<=N.length:=by have:=congrArg List.length S.pre;rw[List.length_take] at this;omega
 obtain⟨h1,tk,rfl,hk⟩:=x.done;have noA:∀b:Addr,b∉(Iv CX P w K mg base N qual scope f cd A outer s H E).ex:=λb z=>absurd (show b∈([]:List Addr) from z) (by simp);refine⟨⟨e0.mod,S.kind,rfl,rfl,AAF _,λy z c h1 h2=>?_,λy hy=>?_,λy c _ h=>?_,λ_=>hd,Around.frames_deeper e0.frames,.inr ⟨rfl,rfl⟩,λb z=>absurd z (noA b),e0.bs,e0.bsz,λb _ _=>noA b,λb z=>absurd z (noA b),e0.funs,e0.frf⟩,
  rfl,e0.bare,Un.kept hk,⟨_,x.toInCall.ns,λi y v h1 h2 h3=>?_⟩,λy c h=>⟨_,x.cell y c h⟩,e0.hok.fresh (AAF _),λy c h=>?_,λp hp=>absurd (show p∈([]:List (Addr×Obj)) from hp) (by simp),e0.hok.kept hk,?_⟩
 ·exact name_of_addr x.apart (PySem.mem_of_lookup h1) (PySem.mem_of_lookup h2)
 ·have hy:scope.names.lookup y=some .cell∨scope.names.lookup y=some .free:=hy;rcases hy with hy|hy
  ·exact M0 hy
  ·exact absurd rfl (S.nofree _ (PySem.mem_of_lookup hy))
 ·exact Nat.le_of_lt (x.above y c (PySem.mem_of_lookup h))
 ·have hi:i<vs.length:=by
   unfold start at h2;by_cases hi:i<vs.length
   ·exact hi
   ·rw[AAS (by simpa using hi)] at h2;rw[List.getElem?_replicate] at h2;split at h2<;>cases h2
  have ha:vs[i]?=some v:=by
   unfold start at h2;rw[AAT (by simpa using hi),AAW] at h2;cases e:vs[i]? with
   |none=>rw[e] at h2;cases h2
   |some a=>rw[e] at h2;cases h2;rfl
  obtain⟨u,hu,rv⟩:=r.get ha;have hp:ps[i]?=some y:=by
   rw[←S.pre,List.getElem?_take_of_lt (by omega)];exact h1
  have ndP:ps.Nodup:=by rw[←S.pre];exact S.nd.sublist (List.take_sublist _ _)
  refine⟨u,rv,?_⟩;rcases S.par y (AAV hp) with k|k
  ·exact .inl ⟨k,KQ ndP hp hu k⟩
  ·obtain⟨c,e⟩:=M0 (n:=s.heap.objs.size+1) k;refine .inr ⟨.inl k,c,e,?_⟩;have q:=x.cell y c e;rw[KS ndP hp hu (by show scope.names.lookup y≠_;rw[k];decide)] at q;exact q
 ·exact e0.hok.fresh (Nat.le_of_lt (x.above y c (PySem.mem_of_lookup h)))
 ·unfold start;show _=N.length;rw[AAH,AAG,AAm];omega
theorem aH{CX:CXT}{P:Program}{w:World}{K:PySem.W.Frag}{mg:Str->Option Value}{base:Heap}{k:Nat}{f:Addr}{name qual:Str}{params:Arguments}{body:List Stmt}{scope:Scope}{dV kV doc pm cdv ct oc:Value}{an od:Option Addr}
  {osl:Array (Option Value)} {N ps:List Str} {sp:Sp} (lk:K.lookup f=some ⟨oc,od,.func (PySem.W.fnOf name qual params body scope dV kV doc pm an cdv ct),osl⟩) (hcd:PySem.W.codeIn K cdv qual=true) (S:Ae N ps scope)
  (len:∀vs H Q E,sp vs H Q E->vs.length=ps.length)
  (hbody:∀(A:Around) (outer:List Env) (s:Shared) (H:Hp) (vs:List V) (Q:VK) (E:XK),Room k (A.deeper (envOfC qual scope s.heap.objs.size f cdv))->sp vs H Q E->
   ∃t,PSs (Iv CX P w K mg base N qual scope f cdv A outer s H E) body t/\t { nx:=λ_ H'=>Q .non H',rt:=Q } (start N vs) H) :
  FnOk P w K mg base CX (k+1) f (PySem.W.fnOf name qual params body scope dV kV doc pm an cdv ct) ps sp:=by
 refine⟨len,λA outer s H args us vs Q E hr e0 hb r hsp=>?_⟩;have hl:=len _ _ _ _ hsp;have KX:K.In s.heap:=e0.mod.kin.keeps λb o e=>(e0.bs b o e).1;have lim:s.heap.NoLimit:=e0.mod.nolimit.keeps λb o e=>(e0.bs b o e).1;have hkind:∀y∈ps.zip us,scope.names.lookup y.1=some .local∨(scope.names.lookup y.1=some .cell/\((cellsFrom (s.heap.objs.size+1) scope.names []).lookup y.1).isSome=true):=λ⟨n,v⟩ hy=>by
  rcases S.par n (List.of_mem_zip hy).1 with q|q
  ·exact .inl q
  ·exact .inr ⟨q,PySem.W.cellsFrom_some _ _ _ (.inl q)⟩
 refine codeAny_call_function hr.depth (KX _ _ lk) rfl S.co S.gen rfl (PySem.W.codeRec_of KX hcd) (hb _ _ _ _ ?_);refine wpAny_newFunctionEnv_cells S.kind hkind λenv he s1 x=>?_;subst he;refine⟨lim.keeps x.toInCall.keep,codeAny_func ?_⟩;obtain⟨t,ht,hq⟩:=hbody A outer s H vs Q E (hr.deeper _) hsp;have I:Inv (Iv CX P w K mg base N qual scope f cdv A outer s H E) [] (start N vs) H s1:=Qp S hr.hd e0 hl r x;refine AAj (ht [] s1 (start N vs) H _ I hq) (λfl s' hs=>?_) λe s' hs=>hs;have fin:∀{σ':St} {H':Hp} {v:V} {u:Value},Inv (Iv CX P w K mg base N qual scope f cdv A outer s H E) [] σ' H' s'->RelV v u->Q v H'->CE outer P w H s Q u s':=
  λ{σ' H' v u} J rv q=>⟨v,H',J.os,J.bare,J.base,J.hok,rv,q⟩
 cases fl with
 |ret u=>
  obtain⟨v,σ',H',J,rv,q⟩:=hs;exact fin J rv q
 |next=>
  obtain⟨σ',H',J,q⟩:=hs;exact fin (v:=V.non) (u:=Value.none) J rfl q
 |brk=>
  obtain⟨_,_,_,q⟩:=hs;exact False.elim q
 |cont=>
  obtain⟨_,_,_,q⟩:=hs;exact False.elim q
section
variable{X:Cx}{x:Str}{p pos:Pos}{e:Expr}{es:List Expr}{t:TA}{id T:String}{r:List V->Hp->VK->Prop}
noncomputable def tCB(r:List V->Hp->VK->Prop)(t:TA):TE:=λσ H Q=>t σ H λvs H1=>r vs H1 Q
theorem IJ(hc:Bh X (.builtin id) r)(hg:Gl X x)(hm:X.mg x=none)(hv:bootBuiltins x=some (.builtin id))(ha:PA X (e::es) t)(hn:x ≠ "__name__" := by decide)(hdb:(x==("__debug__" : Str))=false:=by decide)
  (he:starEach (e::es) X.env=(false,eval e X.env)::starEach es X.env:=by rfl) (hpl:(backTo pos (starEach es X.env)).any (·.1)=false:=by rfl):PE X (.Call (.Name x p) (e::es) [] pos) (tCB r t):=by
 intro pins s σ H Q I h;refine wpAny_Call_Name_kw (Em I hg hm hv ?_ hn hdb);exact PyProof.Rows.callWith_builtin1 (thn (ha pos pins s σ H _ I h) λus s1 ⟨vs,H1,I1,r1,q1⟩=>hc pins s1 σ H1 vs us Q I1 r1 q1) he hpl
theorem DX(hc:Bh X (.type T) r)(hg:Gl X x)(hm:X.mg x=none)(hv:bootBuiltins x=some (.type T))(ha:PA X (e::es) t)(hn:x ≠ "__name__" := by decide)(hdb:(x==("__debug__" : Str))=false:=by decide)
  (he:starEach (e::es) X.env=(false,eval e X.env)::starEach es X.env:=by rfl) (hpl:(backTo pos (starEach es X.env)).any (·.1)=false:=by rfl):PE X (.Call (.Name x p) (e::es) [] pos) (tCB r t):=by
 intro pins s σ H Q I h;refine wpAny_Call_Name_kw (Em I hg hm hv ?_ hn hdb);exact PyProof.Rows.callWith_type1 (thn (ha pos pins s σ H _ I h) λus s1 ⟨vs,H1,I1,r1,q1⟩=>hc pins s1 σ H1 vs us Q I1 r1 q1) he hpl
end
end L2
namespace HT
open PySem PyProof.Rows
noncomputable def CL:List Int->List Int->Bool
 |[],[]=>false
 |[],_::_=>true
 |_::_,[]=>false
 |x::xs,y::ys=>if x=y then CL xs ys else decide (x<y)
theorem Bi(x y:Int)(xs ys:List Int):CL (x::xs) (y::ys)=if x=y then CL xs ys else decide (x<y):=rfl
theorem JT:CL [] []=false:=rfl
theorem IU(y:Int)(ys:List Int):CL [] (y::ys)=true:=rfl
theorem IV(x:Int)(xs:List Int):CL (x::xs) []=false:=rfl
theorem T4(A:Around)(s:Shared)(a:Int)(t:Tok)(c:Int)(u:Tok):∃e,SeqAt.EqAt A s (.int a t) (.int c u) e/\(e=true↔a=c):=
 ⟨(a==c),SeqAt.EqAt.int_int a t c u,by simp⟩
theorem Sf(A:Around)(s:Shared)(a:Int)(t:Tok)(c:Int)(u:Tok)(prog:Program)(w:World)(E:Value->Shared->Prop)(Q:Value->Shared->Prop)(h:Q (.bool (decide (a<c))) s):
  wpAny (model prog w) A (richCompare .Lt (.int a t) (.int c u)) Q E s:=
 (PyProof.Rows.lt_int h:wpAny (model prog w) A (compareOp .Lt (.int a t) (.int c u)) Q E s)
section
open PySem.SeqAt
open PySem.AutoSeq1 (wpAny_loadPart')
open PySem.MeetsSeq PySem.MeetsSeq2 PySem.MeetsSeq3
theorem JL(l b:Addr)(items items2:Array Value)(n n2:Nat)(dd dd2:Option Addr)(sl sl2:Array (Option Value))(ns ms:List Int)(hi:IntsAre items.toList ns)(hj:IntsAre items2.toList ms):
  Meets (Builtin.«tuple.__lt__» ⟨[.ref l,.ref b],[]⟩)
   (λ_ R s=>s.heap.get? l=some { cls:=.type "tuple",dict:=dd,data:=.seq items n,slots:=sl }/\s.heap.get? b=some { cls:=.type "tuple",dict:=dd2,data:=.seq items2 n2,slots:=sl2 } /\
    R (.ok (.ret (.bool (CL ns ms)))) s):=
 .of_wp λprog w A R s h=>by
  obtain⟨hp,g,d,tk,os⟩:=s;obtain⟨hl,hb,h⟩:=h;have f2:=AutoSeq1.sub_tuple_tuple;have z1:items.size=ns.length:=by rw[←hi.length];simp
  have z2:items2.size=ms.length:=by rw[←hj.length];simp
  wp_walk using wpAny_loadPart' hl,wpAny_loadPart' hb,wpAny_forIn_list _ (λBG b s'=>b.1=none/\s'=⟨hp,g,d,tk,os⟩/\∃(vs ws:List Value) (ns' ms':List Int),BG=vs.zip ws /\
   IntsAre vs ns'/\IntsAre ws ms'/\ns'.length+items2.size=ms'.length+items.size/\R (.ok (.ret (.bool (CL ns' ms')))) ⟨hp,g,d,tk,os⟩) _
  case turn=>
   rintro⟨y,x⟩ BG b s' ⟨hb',rfl,vs,ws,ns',ms',hz,hvi,hwi,hlen,hR⟩;cases hvi with
   |nil=>rw[List.zip_nil_left] at hz;cases hz
   |cons a t hvi'=>
    cases hwi with
    |nil=>rw[List.zip_nil_right] at hz;cases hz
    |cons c u hwi'=>
     rw[List.zip_cons_cons] at hz;injection hz with hyx hrest
     injection hyx with hy hx
     subst hy hx;rw[Bi] at hR;simp only[AAI] at hlen;obtain⟨e,he,hiff⟩:=T4 A.in1 ⟨hp,g,d,tk,os⟩ a t c u;refine AAA (he prog w _ _ ?_);cases e with
     |true=>
      rw[if_pos (hiff.mp rfl)] at hR
      wp_walk
      exact⟨rfl,rfl,_,_,_,_,hrest,hvi',hwi',by omega,hR⟩
     |false=>
      rw[if_neg (λq=>absurd (hiff.mpr q) AAg)] at hR;have hri:=Sf A.in1 ⟨hp,g,d,tk,os⟩ a t c u prog w
      wp_walk using hri
      exact⟨_,rfl,by simpa using hR⟩
  case fin=>
   rintro⟨b1,b2⟩ s' ⟨hb',rfl,vs,ws,ns',ms',hz,hvi,hwi,hlen,hR⟩;simp only at hb';subst hb';have hv:CL ns' ms'=decide (items.size<items2.size):=by
    cases hvi with
    |nil=>
     cases hwi with
     |nil=>
      simp only[List.length_nil] at hlen;rw[JT];exact(AAO (by omega)).symm
     |cons c u hw=>
      simp only[List.length_nil,AAI] at hlen;rw[IU];exact(AAP (by omega)).symm
    |cons a t hv=>
     cases hwi with
     |nil=>
      simp only[List.length_nil,AAI] at hlen;rw[IV];exact(AAO (by omega)).symm
     |cons c u hw=>
      rw[List.zip_cons_cons] at hz;cases hz
   rw[hv] at hR
   wp_walk
   exact⟨_,rfl,by simpa[Builtin.Tuple.tupleCompareSizes] using hR⟩
  case h=>
   exact⟨rfl,rfl,items.toList,items2.toList,ns,ms,rfl,hi,hj,by omega,h⟩
end
section
variable{prog:Program}{w:World}{A:Around}{E:Value->Shared->Prop}{s:Shared}
theorem Nr(hl:IsTup s.heap l items)(hb:IsTup s.heap b items2)(hi:IntsAre items.toList ns)(hj:IntsAre items2.toList ms)
  (hu:A.units<cLine) (h:Q (.bool (CL ns ms)) s):wpAny (model prog w) A (compareOp .Lt (.ref l) (.ref b)) Q E s:=by
 obtain⟨⟨cls,dd,data,sl⟩,ho,hc,n,hd⟩:=id hl;obtain⟨⟨cls2,dd2,data2,sl2⟩,ho2,hc2,n2,hd2⟩:=id hb;simp only at hc hd hc2 hd2;subst hc hd hc2 hd2;exact richCompare_meets_room (op:=.Lt) ⟨_,ho,rfl⟩ ⟨_,ho2,rfl⟩ PySem.F.slot_tuple_lt PySem.F.entry_tuple_lt (PySem.F.args_tuple_lt_2 _ _) (JL l b items items2 n n2 dd dd2 sl sl2 ns ms hi hj)
  ⟨ho,ho2,show Value.bool (CL ns ms)≠Value.notImplemented/\Q (.bool (CL ns ms)) s from ⟨(λx=>nomatch x),h⟩⟩ hu
theorem WL(ht:IsTup s.heap t vs.toArray)(hb:IsTup s.heap b ws.toArray)(hv:vs≠[])
  (h1:ws=[]->Q (.ref t) s) (h2:ws≠[]->Q (.ref s.heap.objs.size) { s with heap:=s.heap.push { cls:=.type "tuple",data:=.seq (vs++ws).toArray } })
  (hsz:vs.length+ws.length<=sizeLine):wpAny (model prog w) A (binaryOp .Add (.ref t) (.ref b)) Q E s:=by
 obtain⟨⟨cls,dd,data,sl⟩,ho,hc,n,hd⟩:=id ht;obtain⟨⟨cls2,dd2,data2,sl2⟩,ho2,hc2,n2,hd2⟩:=id hb;simp only at hc hd hc2 hd2;subst hc hd hc2 hd2;have e:vs.toArray++ws.toArray=(vs++ws).toArray:=by simp
 by_cases hw:ws=[]
 ·exact concat_meets ⟨_,ho,rfl⟩ ⟨_,ho2,rfl⟩ noFill_tuple_add seq_tuple_add PySem.F.slot_tuple_add PySem.F.entry_tuple_add (PySem.F.args_tuple_add_2 _ _)
   (tuple_addW1 t b vs.toArray ws.toArray n n2 dd dd2 sl sl2 (by simpa using hv) (by simp[hw])) ⟨ho,ho2,h1 hw⟩
 ·refine concat_meets ⟨_,ho,rfl⟩ ⟨_,ho2,rfl⟩ noFill_tuple_add seq_tuple_add PySem.F.slot_tuple_add PySem.F.entry_tuple_add (PySem.F.args_tuple_add_2 _ _)
   (tuple_addW2 t b vs.toArray ws.toArray n n2 dd dd2 sl sl2 (by simpa using hv) (by simpa using hw) (by rw[List.size_toArray,List.size_toArray];exact hsz)) ⟨ho,ho2,?_⟩
  rw[e];exact h2 hw
noncomputable def sIx(n d:Nat):Option Int->Nat
 |none=>d
 |some v=>if v<0 then (v+(n:Int)).toNat else min v.toNat n
theorem Xn(n d:Nat)(hd:d<=n)(o:Option Int):sIx n d o<=n:=by
 cases o with
 |none=>exact hd
 |some v=>
  show (if v<0 then (v+(n:Int)).toNat else min v.toNat n)<=n;by_cases hv:v<0
  ·rw[if_pos hv];omega
  ·rw[if_neg hv];exact Nat.min_le_right _ _
theorem Pi(v:Int)(n d:Nat):(if v<0 then max (v+(n:Int)) 0 else min v (n:Int))=((sIx n d (some v):Nat):Int):=by
 show (if v<0 then max (v+(n:Int)) 0 else min v (n:Int))=(((if v<0 then (v+(n:Int)).toNat else min v.toNat n):Nat):Int);by_cases hv:v<0
 ·simp only[if_pos hv];omega
 ·simp only[if_neg hv];omega
theorem OL(lo hi:Option Int)(n:Nat):Builtin.Slice.sliceAdjust lo hi 1 (n:Int)=(((sIx n 0 lo:Nat):Int),((sIx n n hi:Nat):Int)):=by
 have h1:¬((1:Int)<0):=by omega
 unfold Builtin.Slice.sliceAdjust;simp only[h1,if_false];refine Prod.ext ?_ ?_
 ·cases lo with
  |none=>rfl
  |some v=>exact Pi v n 0
 ·cases hi with
  |none=>rfl
  |some v=>exact Pi v n n
theorem Nf(i j:Nat):Builtin.Slice.slicePlaces (i:Int) (j:Int) 1=j-i:=by
 unfold Builtin.Slice.slicePlaces;have h1:(1:Int) > 0:=by omega
 simp only[h1,if_true,Int.ediv_one];split<;>omega
theorem Hr(p:IsPart v o)(h:Q o s):wpAny (model prog w) A (Builtin.Slice.slicePartIndex v) Q E s:=by
 cases p with
 |none=>exact slicePart_none h
 |int i t=>exact slicePart_int h
theorem DU{sl:Addr}{vl vu:Value}{lo hi:Option Int}{n:Nat}{Q:Int×Int×Nat->Shared->Prop}(hs:s.heap.IsSliceOf sl vl vu .none)(pl:IsPart vl lo)(pu:IsPart vu hi)
  (h:Q (((sIx n 0 lo:Nat):Int),1,sIx n n hi-sIx n 0 lo) s):wpAny (model prog w) A (Builtin.Slice.sliceApplied (.ref sl) (pure (n:Int))) Q E s:=by
 obtain⟨os,hos,hcs,hds⟩:=id hs;unfold Builtin.Slice.sliceApplied Builtin.Slice.sliceFields;refine AAA (AAA (AAx hos hds (x:=vl) rfl (AAA (AAx hos hds (x:=vu) rfl (AAA (AAx hos hds (x:=.none) rfl (AAB ?_)))))));refine AAA (slicePart_none ?_);show wpAny _ _ (if ((1:Int)==0)=true then _ else _) _ _ s;rw[if_neg (by decide)];refine AAA (Hr pl (AAA (Hr pu (AAA (AAB ?_)))));show wpAny _ _ (match Builtin.Slice.sliceAdjust lo hi 1 (n:Int) with|(lo,hi)=>pure (lo,(1:Int),Builtin.Slice.slicePlaces lo hi 1)) _ _ s;rw[OL lo hi n];show wpAny _ _ (pure (((sIx n 0 lo:Nat):Int),(1:Int),Builtin.Slice.slicePlaces ((sIx n 0 lo:Nat):Int) ((sIx n n hi:Nat):Int) 1)) _ _ s;rw[Nf];exact AAB h
theorem Sz(xs:Array Value)(i k:Nat):((List.range k).filterMap λ(m:Nat)=>xs[((i:Int)+(m:Int) * 1).toNat]?).toArray=((xs.toList.drop i).take k).toArray:=by
 have e:(λ(m:Nat)=>xs[((i:Int)+(m:Int) * 1).toNat]?)=λm=>xs[i+m]?:=by
  funext m
  have:((i:Int)+(m:Int) * 1).toNat=i+m:=by omega
  rw[this]
 rw[e];have:=pick_run xs i k;rw[List.filterMap_map] at this;have e2:((λx=>xs[x]?) ∘ λx=>i+x)=λm=>xs[i+m]?:=rfl;rw[e2] at this;rw[this]
theorem GE{t sl:Addr}{items:Array Value}{vl vu:Value}{lo hi:Option Int}{Q:Value->Shared->Prop}(ht:IsTup s.heap t items)(hs:s.heap.IsSliceOf sl vl vu .none)(pl:IsPart vl lo)(pu:IsPart vu hi)
  (hw:¬(sIx items.size 0 lo=0/\sIx items.size items.size hi=items.size))
  (h:Q (.ref s.heap.objs.size) { s with heap:=s.heap.push { cls:=.type "tuple",data:=.seq ((items.toList.drop (sIx items.size 0 lo)).take (sIx items.size items.size hi-sIx items.size 0 lo)).toArray } })
  (hsz:items.size<=sizeLine):wpAny (model prog w) A (getItem (.ref t) (.ref sl)) Q E s:=by
 have htake:sizeOk (.seq ((items.toList.drop (sIx items.size 0 lo)).take (sIx items.size items.size hi-sIx items.size 0 lo)).toArray):=by
  show ((items.toList.drop (sIx items.size 0 lo)).take (sIx items.size items.size hi-sIx items.size 0 lo)).toArray.size<=sizeLine;rw[List.size_toArray,List.length_take,List.length_drop,Array.length_toList];omega
 have hj:sIx items.size items.size hi<=items.size:=Xn _ _ (AAF _) hi;obtain⟨os,hos,hcs,hds⟩:=id hs;have hTs:s.TypeIs (.ref sl) "slice" := ⟨os,hos,hcs⟩;unfold getItem
 try with_reducible refine AAo ?_
 first|refine AAA (AAB ?_)|skip
 refine AAA (wpAny_sequenceKey ht.typeIs (by decide) ?_);refine AAA (wpAny_callSpecial?_slot (name:=Str.ofString "__getitem__") ht.typeIs PyProof.Rows.slot_tuple_getitem
  (AAd PyProof.Rows.slot_tuple_getitem ht.typeIs entry_tuple_getitem ?_ (args_tuple_getitem _ _)))
 show wpAny _ _ (Builtin.Tuple.tupleItemsOf (.ref t) >>= _) _ _ s;refine AAA (tupleItemsOf_ ht ?_);refine AAA (wpAny_typeOf hTs ?_);rw[if_pos (by decide)];refine AAA (DU hs pl pu ?_);have hno:¬((((sIx items.size 0 lo:Nat):Int)==0&&(1:Int)==1&&(sIx items.size items.size hi-sIx items.size 0 lo)==items.size)=true):=by
  intro q;rw[Bool.and_eq_true,Bool.and_eq_true] at q;have q1:((sIx items.size 0 lo:Nat):Int)=0:=eq_of_beq q.1.1;have q2:sIx items.size items.size hi-sIx items.size 0 lo=items.size:=eq_of_beq q.2;exact hw ⟨by omega,by omega⟩
 show wpAny _ _ (if (((sIx items.size 0 lo:Nat):Int)==0&&(1:Int)==1&&(sIx items.size items.size hi-sIx items.size 0 lo)==items.size)=true then _ else _) _ _ s;rw[if_neg hno,Sz]
 first
  |exact AAA (m:=Builtin.Tuple.tupleExact _) (AAq (AAB ⟨_,rfl,AAB h⟩) htake)
  |exact AAA (m:=Builtin.Tuple.tupleExact _) (AAq (AAA (AAB (AAB ⟨_,rfl,AAB h⟩))) htake)
  |exact AAA (AAA (m:=Builtin.Tuple.tupleExact _) (AAq (AAB (AAB ⟨_,rfl,AAB h⟩)) htake))
  |exact AAA (AAA (m:=Builtin.Tuple.tupleExact _) (AAq (AAB ⟨_,rfl,AAB h⟩) htake))
end
end HT
namespace L2
open PySem PySem.Spec PyProof.Rows
noncomputable abbrev TO:=St->Hp->(Option Int->Hp->Prop)->Prop
def PO(X:Cx)(e:Option Expr)(t:TO):Prop:=
 ∀(pins:List (Addr×Obj)) (s:Shared) (σ:St) (H:Hp) (Q:Option Int->Hp->Prop),Inv X pins σ H s->t σ H Q->
  wpAny (model X.prog X.w) X.A (evalPart e X.env) (λu s'=>∃o H',Inv X pins σ H' s'/\IsPart u o/\Q o H') X.xe s
noncomputable def Ux:TO:=λ_ H Q=>Q none H
noncomputable def ZQ(t:TE):TO:=λσ H Q=>t σ H λx H1=>∃i,x=.int i/\Q (some i) H1
theorem Ia:∀{us:List Value},Vals (ns.map V.int) us->IntsAre us ns:=by
 induction ns with
 |nil=>intro us r;rw[List.map_nil] at r;cases r;exact .nil
 |cons n ns ih=>
  intro us r;rw[AAX] at r;cases r with
  |cons r1 r2=>
   obtain⟨t,e⟩:=r1;subst e;exact .cons n t (ih r2)
section
variable{X:Cx}{e:Expr}{te:TE}{lo hi:Option Expr}{tl th:TO}{pos p2:Pos}
theorem Va:PO X none Ux:=by
 intro pins s σ H Q I h;rw[evalPart_none];exact AAB ⟨none,H,I,.none,h⟩
theorem VZ(h:PE X e te):PO X (some e) (ZQ te):=by
 intro pins s σ H Q I hw;rw[evalPart_some];refine thn (h pins s σ H _ I hw) λu s1 ⟨x,H1,I1,r1,q1⟩=>?_;obtain⟨i,rfl,q⟩:=q1;obtain⟨t,rfl⟩:=r1;exact⟨some i,H1,I1,.int i t,q⟩
def SlR(X:Cx)(r:V->Option Int->Option Int->Hp->VK->Prop):Prop:=
 ∀(pins:List (Addr×Obj)) (s:Shared) (σ:St) (H:Hp) (x:V) (v vl vu:Value) (lo hi:Option Int) (sl:Addr) (Q:VK),Inv X pins σ H s->RelV x v->s.heap.IsSliceOf sl vl vu .none->IsPart vl lo->IsPart vu hi->r x lo hi H Q->
  ∃T id,typeLookup (.type T) "__getitem__" = pure (some (.builtin id))/\s.TypeIs v T/\wpAny (model X.prog X.w) X.A (getItem v (.ref sl)) (EP X pins σ Q) X.xe s
theorem SlR.or(h:SlR X r)(h':SlR X r'):SlR X (λx lo hi H Q=>r x lo hi H Q∨r' x lo hi H Q):=by
 intro pins s σ H x v vl vu lo hi sl Q I rx hs pl pu q;rcases q with q|q
 ·exact h pins s σ H x v vl vu lo hi sl Q I rx hs pl pu q
 ·exact h' pins s σ H x v vl vu lo hi sl Q I rx hs pl pu q
noncomputable def tSl(r:V->Option Int->Option Int->Hp->VK->Prop)(te:TE)(tl th:TO):TE:=λσ H Q=>te σ H λx H1=>tl σ H1 λl H2=>th σ H2 λu H3=>r x l u H3 Q
theorem S9(hr:SlR X r)(he:PE X e te)(hl:PO X lo tl)(hu:PO X hi th):PE X (.Subscript e (.Slice lo hi none p2) pos) (tSl r te tl th):=by
 intro pins s σ H Q I h;refine Subscript_ (thn (he pins s σ H _ I h) λv s1 ⟨x,H1,I1,r1,q1⟩=>?_);refine wpAny_Slice (thn (hl pins s1 σ H1 _ I1 q1) λvl s2 ⟨l,H2,I2,pl,q2⟩=>thn (hu pins s2 σ H2 _ I2 q2) λvu s3 ⟨u,H3,I3,pu,q3⟩=>?_);rw[evalPart_none];refine AAB ?_;have I4:Inv X pins σ H3 { s3 with heap:=s3.heap.push { cls:=.type "slice",data:=.fields #[vl,vu,.none] } }:=I3.kept (t':=s3.toks) λb ob q=>AAC _ q;obtain⟨T,id,hT,ht,hg⟩:=hr pins { s3 with heap:=s3.heap.push { cls:=.type "slice",data:=.fields #[vl,vu,.none] } } σ H3 x v vl vu l u s3.heap.objs.size Q I4 r1 (Heap.IsSliceOf.new ..) pl pu q3;show wpAny (model X.prog X.w) X.A (subscriptTail e (.Slice lo hi none p2) v (.ref s3.heap.objs.size)) (EP X pins σ Q) X.xe { s3 with heap:=s3.heap.push { cls:=.type "slice",data:=.fields #[vl,vu,.none] } };exact tail_any (ops:=[.ref s3.heap.objs.size,v]) ht hT hg (by with_unfolding_all rfl)
noncomputable def Mu(xs:List V)(lo hi:Option Int):List V:=(xs.drop (HT.sIx xs.length 0 lo)).take (HT.sIx xs.length xs.length hi-HT.sIx xs.length 0 lo)
theorem HP(xs:List V)(lo hi:Option Int):(Mu xs lo hi).length<=xs.length:=by
 unfold Mu;rw[List.length_take,List.length_drop];omega
noncomputable def bZ(K:PySem.W.Frag):V->Option Int->Option Int->Hp->VK->Prop:=λx lo hi H Q=>∃a xs,x=.ref a/\SqT K H a xs /\
 ¬(HT.sIx xs.length 0 lo=0/\HT.sIx xs.length xs.length hi=xs.length)/\∀p,H p=none->Q (.ref p) (upd H p (.tup (Mu xs lo hi)))
theorem Xk:SlR X (bZ X.K):=by
 intro pins s σ H x v vl vu lo hi sl Q I rx hs pl pu h;obtain⟨a,xs,rfl,hx,hw,q⟩:=h;cases rx;obtain⟨its,r,ht,hz⟩:=I.tuple hx;have hlen:its.toArray.size=xs.length:=by rw[List.size_toArray];exact r.length.symm
 refine⟨"tuple",_,PyProof.Rows.slot_tuple_getitem.lookup,ht.typeIs,?_⟩;refine HT.GE ht hs pl pu (by rw[hlen];exact hw) ?_ (by rw[hlen];exact hz);rw[hlen];refine⟨.ref s.heap.objs.size,_,I.laid (t':=s.toks) (o:=.tup (Mu xs lo hi)) (λb ob q=>AAC _ q) (AAF _) ?_,rfl,q _ (I.hok.fresh (AAF _))⟩;exact⟨AAs (HP xs lo hi) hz,_,(r.drop (HT.sIx xs.length 0 lo)).take (HT.sIx xs.length xs.length hi-HT.sIx xs.length 0 lo),IsTup.new _ _⟩
noncomputable def Zl(K:PySem.W.Frag):R2:=λx y H Q=>∃a b xs ys,x=.ref a/\y=.ref b/\SqT K H a xs/\SqT K H b ys/\xs≠[]/\xs.length+ys.length<=sizeLine /\
 (ys=[]->Q (.ref a) H)/\(ys≠[]->∀p,H p=none->Q (.ref p) (upd H p (.tup (xs++ys))))
theorem Vals.nil_iff(r:Vals xs us):us=[]↔xs=[]:=by
 cases r with
 |nil=>simp
 |cons _ _=>simp
theorem Vp:OpR X (binaryOp .Add) (Zl X.K):=by
 intro pins s σ H x y v u Q I rx ry h;obtain⟨a,b,xs,ys,rfl,rfl,ha,hb,hx,hz,q1,q2⟩:=h;cases rx;cases ry;obtain⟨its,r1,p1,_⟩:=I.tuple ha;obtain⟨its2,r2,p2,_⟩:=I.tuple hb;refine HT.WL p1 p2 (λz=>hx (r1.nil_iff.mp z)) (λz=>⟨.ref a,H,I,rfl,q1 (r2.nil_iff.mp z)⟩) (λz=>?_) (by rw[←r1.length,←r2.length];exact hz);refine⟨.ref s.heap.objs.size,_,I.laid (t':=s.toks) (o:=.tup (xs++ys)) (λb ob q=>AAC _ q) (AAF _) ?_,rfl,q2 (λw=>z (r2.nil_iff.mpr w)) _ (I.hok.fresh (AAF _))⟩;exact⟨by rw[AAH];exact hz,_,r1.append r2,IsTup.new _ _⟩
theorem M1:Bh X (.type "tuple") (λxs H Q=>∃a ys,xs=[.ref a]/\SqT X.K H a ys/\Q (.ref a) H):=by
 intro pins s σ H xs us Q I r h;obtain⟨a,ys,rfl,ha,q⟩:=h;obtain⟨u,rfl,ru⟩:=Hi r;cases ru;obtain⟨its,_,p1,_⟩:=I.tuple ha;exact call_tuple_same (items:=its.toArray) p1 ⟨.ref a,H,I,rfl,q⟩
end
noncomputable def ixN(n:Nat)(i:Int):Option Nat:=if 0<=i then (if i<n then some i.toNat else none) else if -(n:Int)<=i then some (i+n).toNat else none
noncomputable def atI{α:Type}(xs:List α)(i:Int):Option α:=(ixN xs.length i).bind λj=>xs[j]?
theorem V1(h:ixN n i=some j):seqIndex? i n=some j/\j<n/\-(n:Int)<=i/\i<n:=by
 unfold ixN at h;by_cases h0:0<=i
 ·rw[if_pos h0] at h;by_cases h1:i<n
  ·rw[if_pos h1] at h;have e:i.toNat=j:=Option.some.inj h;exact⟨by rw[seqIndex_of h0 h1,e],by omega,by omega,h1⟩
  ·rw[if_neg h1] at h;cases h
 ·rw[if_neg h0] at h;by_cases h1:-(n:Int)<=i
  ·rw[if_pos h1] at h;have e:(i+n).toNat=j:=Option.some.inj h;exact⟨by rw[seqIndex_neg (by omega) h1,e],by omega,h1,by omega⟩
  ·rw[if_neg h1] at h;cases h
theorem LL(h:atI xs i=some v):∃j,seqIndex? i xs.length=some j/\xs[j]?=some v/\j<xs.length/\-(xs.length:Int)<=i/\i<xs.length:=by
 unfold atI at h;cases e:ixN xs.length i with
 |none=>rw[e] at h;cases h
 |some j=>
  rw[e] at h;obtain⟨h1,h2,h3,h4⟩:=V1 e;exact⟨j,h1,h,h2,h3,h4⟩
theorem Pp{α:Type}{xs:List α}{j:Nat}{v:α}(h:xs[j]?=some v):atI xs (j:Int)=some v:=by
 have hj:j<xs.length:=(AAU.mp h).1;have e:ixN xs.length (j:Int)=some j:=by
  unfold ixN;rw[if_pos (by omega),if_pos (by omega)];simp
 unfold atI;rw[e];exact h
def Ps(b:Expr):Prop:=∀o i,subscripted b false o i=operate [o,i] (getItem o i)
def IxR(X:Cx)(r:R2):Prop:=
 ∀(value slice:Expr) (pins:List (Addr×Obj)) (s:Shared) (σ:St) (H:Hp) (x y:V) (v u:Value) (Q:VK),Inv X pins σ H s->RelV x v->RelV y u->r x y H Q->
  subscripted slice false v u=operate [v,u] (getItem v u)->wpAny (model X.prog X.w) X.A (subscriptTail value slice v u) (EP X pins σ Q) X.xe s
def MtR(X:Cx)(id:String)(r:V->List V->Hp->VK->Prop):Prop:=
 ∀(pins:List (Addr×Obj)) (s:Shared) (σ:St) (H:Hp) (x:V) (xs:List V) (v:Value) (us:List Value) (Q:VK),Inv X pins σ H s->RelV x v->Vals xs us->r x xs H Q->
  wpAny (model X.prog X.w) X.A (call (.builtin id) (v::us)) (EP X pins σ Q) X.xe s
section
variable{X:Cx}{a b:Expr}{ta tb:TE}{pos:Pos}
theorem IxR.or(h:IxR X r)(h':IxR X r'):IxR X (λx y H Q=>r x y H Q∨r' x y H Q):=by
 intro value slice pins s σ H x y v u Q I rx ry q hs;rcases q with q|q
 ·exact h value slice pins s σ H x y v u Q I rx ry q hs
 ·exact h' value slice pins s σ H x y v u Q I rx ry q hs
theorem Zu(hr:IxR X r)(ha:PE X a ta)(hb:PE X b tb)(hs:Ps b):PE X (.Subscript a b pos) (tOp r ta tb):=by
 intro pins s σ H Q I h;exact Subscript_ (Yq ha hb I h λv u s2 x y H2 I2 rx ry q=>hr a b pins s2 σ H2 x y v u Q I2 rx ry q (hs _ _))
noncomputable def Zk(K:PySem.W.Frag):R2:=λx y H Q=>∃p xs i v,x=.ref p/\y=.int i/\SqL K H p xs/\atI xs i=some v/\Q v H
noncomputable def Zi(K:PySem.W.Frag):R2:=λx y H Q=>∃p xs i v,x=.ref p/\y=.int i/\SqT K H p xs/\atI xs i=some v/\Q v H
noncomputable def Zj:R2:=λx y H Q=>∃z i c,x=.str z/\y=.int i/\z.length<=sizeLine/\atI z.cps.toList i=some c/\Q (.str ⟨#[c]⟩) H
theorem ix_list:IxR X (Zk X.K):=by
 intro value slice pins s σ H x y v u Q I rx ry h hs;obtain⟨p,xs,i,z,rfl,rfl,hq,he,q⟩:=h;cases rx;obtain⟨t,rfl⟩:=ry;obtain⟨its,r,pl,hz⟩:=I.list hq;obtain⟨j,h1,h2,h3,h4,h5⟩:=LL he;obtain⟨w,ew,rw'⟩:=r.get h2;have hl:=r.length;have hn:=Gm;have fin:EP X pins σ Q w s:=⟨z,H,I,rw',q⟩;by_cases h0:0<=i
 ·have hj:i.toNat=j:=by
   rw[seqIndex_of h0 h5] at h1;exact Option.some.inj h1
  exact item_listR pl.isList h0 (by omega) (by rw[hj];simpa using ew) fin hs
 ·have hj:(i+(its.toArray.size:Int)).toNat=j:=by
   rw[seqIndex_neg (by omega) h4] at h1;rw[List.size_toArray,←hl];exact Option.some.inj h1
  exact subscriptTail_builtinR (x:=w) pl.isList.typeIs slot_list_getitem.lookup
   (wpAny_getItem_list_neg (Q:=λr s'=>r=w/\EP X pins σ Q r s') pl.isList (by omega) (by rw[List.size_toArray]<;>omega) (by omega) (by rw[hj];simpa using ew) ⟨rfl,fin⟩) hs
theorem ix_tup:IxR X (Zi X.K):=by
 intro value slice pins s σ H x y v u Q I rx ry h hs;obtain⟨p,xs,i,z,rfl,rfl,hq,he,q⟩:=h;cases rx;obtain⟨t,rfl⟩:=ry;obtain⟨its,r,pl,hz⟩:=I.tuple hq;obtain⟨j,h1,h2,h3,h4,h5⟩:=LL he;obtain⟨w,ew,rw'⟩:=r.get h2;have hl:=r.length;have hn:=Gm;have fin:EP X pins σ Q w s:=⟨z,H,I,rw',q⟩;exact subscriptTail_builtinR (x:=w) pl.typeIs slot_tuple_getitem.lookup
  (getItem_tuple (j:=j) (Q:=λr s'=>r=w/\EP X pins σ Q r s') pl (by omega) (by omega) (by rw[List.size_toArray,←hl];exact h1) (by simpa using ew) ⟨rfl,fin⟩) hs
theorem Ya:IxR X Zj:=by
 intro value slice pins s σ H x y v u Q I rx ry h hs;obtain⟨z,i,c,rfl,rfl,hz,he,q⟩:=h;obtain⟨t,rfl⟩:=rx;obtain⟨t',rfl⟩:=ry;obtain⟨j,h1,h2,h3,h4,h5⟩:=LL he;have hl:z.cps.toList.length=z.length:=by simp[Str.length]
 rw[hl] at h1 h4 h5;have hn:=Gm;exact tail_any (typeIs_str s z t) slot_str_getitem.lookup (getItem_str (c:=c) (by
  have e1:decide (i < -(2 ^ 63:Int))=false:=AAO (by omega);have e2:decide (i ≥ 2 ^ 63)=false:=AAO (by omega);rw[e1,e2,Bool.or_false]) (by rw[h1];simpa using h2) ⟨.str ⟨#[c]⟩,H,I.tok _,⟨_,rfl⟩,q⟩) hs
noncomputable def rIx(K:PySem.W.Frag):R2:=λx y H Q=>Zk K x y H Q∨Zi K x y H Q∨Zj x y H Q
theorem Nx:IxR X (rIx X.K):=ix_list.or (ix_tup.or Ya)
theorem Kk(lo hi:Option Int)(n:Nat):(sliceBounds lo hi none n).1=((HT.sIx n 0 lo:Nat):Int)/\(sliceBounds lo hi none n).2.1=((HT.sIx n n hi:Nat):Int)/\(sliceBounds lo hi none n).2.2=1:=by
 refine⟨?_,?_,rfl⟩
 ·cases lo with
  |none=>simp[sliceBounds,HT.sIx]
  |some i=>
   simp only[sliceBounds,HT.sIx,Option.getD_none,show (1:Int) > 0 by decide,if_true];by_cases h:i<0
   ·simp only[h,if_true]<;>omega
   ·simp only[h,if_false]<;>omega
 ·cases hi with
  |none=>simp[sliceBounds,HT.sIx]
  |some i=>
   simp only[sliceBounds,HT.sIx,Option.getD_none,show (1:Int) > 0 by decide,if_true];by_cases h:i<0
   ·simp only[h,if_true]<;>omega
   ·simp only[h,if_false]<;>omega
theorem JN(its:List Value)(lo hi:Option Int):slicePick its.toArray lo hi none=((its.drop (HT.sIx its.length 0 lo)).take (HT.sIx its.length its.length hi-HT.sIx its.length 0 lo)).toArray:=by
 obtain⟨h1,h2,h3⟩:=Kk lo hi its.toArray.size;unfold slicePick;rw[h1,h2,h3];simp only[sliceRange_one,pick_run,List.size_toArray]<;>rfl
noncomputable def ba(K:PySem.W.Frag):V->Option Int->Option Int->Hp->VK->Prop:=λx lo hi H Q=>∃a xs,x=.ref a/\SqL K H a xs/\∀p,H p=none->Q (.ref p) (upd H p (.lst (Mu xs lo hi)))
theorem U4:SlR X (ba X.K):=by
 intro pins s σ H x v vl vu lo hi sl Q I rx hs pl pu h;obtain⟨a,xs,rfl,hx,q⟩:=h;cases rx;obtain⟨its,r,ht,hz⟩:=I.list hx;have hlen:=r.length;refine⟨"list",_,slot_list_getitem.lookup,ht.isList.typeIs,?_⟩;refine wpAny_getItem_list_slice ht.isList hs pl pu .none (by simp) ?_ (by rw[List.size_toArray]<;>omega);rw[JN,←hlen];refine⟨.ref s.heap.objs.size,_,I.laid (t':=s.toks) (o:=.lst (Mu xs lo hi)) (λb ob q=>AAC _ q) (AAF _) ?_,rfl,q _ (I.hok.fresh (AAF _))⟩;exact⟨AAs (HP xs lo hi) hz,_,0,(r.drop (HT.sIx xs.length 0 lo)).take (HT.sIx xs.length xs.length hi-HT.sIx xs.length 0 lo),AAD _ rfl⟩
noncomputable def C8:V->Bool
 | .non=>true
 | .bl _=>true
 | .int _=>true
 | .str _=>true
 |_=>false
noncomputable def eqV:V->V->Bool
 | .non,.non=>true
 | .bl a,.bl b=>a==b
 | .bl a,.int b=>(if a then 1 else 0)==b
 | .int a,.bl b=>a==(if b then 1 else 0)
 | .int a,.int b=>a==b
 | .str a,.str b=>a==b
 |_,_=>false
theorem Ym(ry:RelV y u)(rx:RelV x v)(fy:C8 y=true)(fx:C8 x=true):SeqAt.EqAt A s u v (eqV y x):=by
 cases y with
 |non=>
  cases ry;cases x with
  |non=>cases rx;exact SeqAt.EqAt.same _
  |bl b=>cases rx;exact SeqAt.EqAt.none_bool b
  |int b=>obtain⟨t,rfl⟩:=rx;exact SeqAt.EqAt.none_int b t
  |str b=>obtain⟨t,rfl⟩:=rx;exact SeqAt.EqAt.none_str b t
  |_=>exact absurd (show false=true from fx) AAg
 |bl a=>
  cases ry;cases x with
  |non=>cases rx;exact SeqAt.EqAt.bool_none a
  |bl b=>cases rx;exact SeqAt.EqAt.bool_bool a b
  |int b=>obtain⟨t,rfl⟩:=rx;exact SeqAt.EqAt.bool_int a b t
  |str b=>obtain⟨t,rfl⟩:=rx;exact SeqAt.EqAt.bool_str a b t
  |_=>exact absurd (show false=true from fx) AAg
 |int a=>
  obtain⟨t',rfl⟩:=ry;cases x with
  |non=>cases rx;exact SeqAt.EqAt.int_none a t'
  |bl b=>cases rx;exact SeqAt.EqAt.int_bool a t' b
  |int b=>obtain⟨t,rfl⟩:=rx;exact SeqAt.EqAt.int_int a t' b t
  |str b=>obtain⟨t,rfl⟩:=rx;exact SeqAt.EqAt.int_str a t' b t
  |_=>exact absurd (show false=true from fx) AAg
 |str a=>
  obtain⟨t',rfl⟩:=ry;cases x with
  |non=>cases rx;exact SeqAt.EqAt.str_none a t'
  |bl b=>cases rx;exact SeqAt.EqAt.str_bool a t' b
  |int b=>obtain⟨t,rfl⟩:=rx;exact SeqAt.EqAt.str_int a t' b t
  |str b=>obtain⟨t,rfl⟩:=rx;exact SeqAt.EqAt.str_str a t' b t
  |_=>exact absurd (show false=true from fx) AAg
 |_=>exact absurd (show false=true from fy) AAg
noncomputable def eqU(x:V)(u:Value):Bool:=match u with
 | .none=>eqV .non x
 | .bool b=>eqV (.bl b) x
 | .int i _=>eqV (.int i) x
 | .str z _=>eqV (.str z) x
 |_=>false
theorem LF(r:RelV y u)(f:C8 y=true):eqU x u=eqV y x:=by
 cases y with
 |non=>cases r;rfl
 |bl b=>cases r;rfl
 |int i=>obtain⟨t,rfl⟩:=r;rfl
 |str z=>obtain⟨t,rfl⟩:=r;rfl
 |_=>exact absurd (show false=true from f) AAg
theorem GR:∀{xs:List V} {us:List Value},Vals xs us->xs.all C8=true->us.any (eqU x)=xs.any λy=>eqV y x
 |_,_,.nil,_=>rfl
 |y::xs,u::us,.cons r t,f=>by
  rw[List.all_cons,Bool.and_eq_true] at f;rw[List.any_cons,List.any_cons,LF r f.1,GR t f.2]
theorem DZ(rx:RelV x v)(fx:C8 x=true):∀{xs:List V} {us:List Value},Vals xs us->xs.all C8=true->∀u∈us,SeqAt.EqAt A s u v (eqU x u)
 |_,_,.nil,_=>λu hu=>by cases hu
 |y::xs,u::us,.cons r t,f=>λu' hu=>by
  rw[List.all_cons,Bool.and_eq_true] at f;rcases AAJ.mp hu with rfl|hu
  ·rw[LF r f.1];exact Ym r rx f.1 fx
  ·exact DZ rx fx t f.2 u' hu
noncomputable def inV(x:V)(xs:List V):Bool:=xs.any λy=>eqV y x
noncomputable def rIn(K:PySem.W.Frag)(neg:Bool):R2:=λx y H Q=>∃p xs,y=.ref p/\(SqL K H p xs∨SqT K H p xs)/\C8 x=true/\xs.all C8=true/\Q (.bl (if neg then !inV x xs else inV x xs)) H
theorem Qa:OpR X (compareOp .In) (rIn X.K false):=by
 intro pins s σ H x y v u Q I rx ry h;obtain⟨p,xs,rfl,hq,fx,fs,q⟩:=h;cases ry;rcases hq with hq|hq
 ·obtain⟨its,r,pl,hz⟩:=I.list hq;refine SeqAt.in_listAt (eqU x) pl.isList (λw hw=>DZ rx fx r fs w (by simpa using hw)) ⟨.bl _,H,I,rfl,?_⟩;rw[show its.toArray.any (eqU x)=its.any (eqU x) by simp,GR r fs];exact q
 ·obtain⟨its,r,pl,hz⟩:=I.tuple hq;refine SeqAt.in_tupleAt (eqU x) pl (λw hw=>DZ rx fx r fs w (by simpa using hw)) ⟨.bl _,H,I,rfl,?_⟩;rw[show its.toArray.any (eqU x)=its.any (eqU x) by simp,GR r fs];exact q
theorem K0:OpR X (compareOp .NotIn) (rIn X.K true):=by
 intro pins s σ H x y v u Q I rx ry h;obtain⟨p,xs,rfl,hq,fx,fs,q⟩:=h;cases ry;rcases hq with hq|hq
 ·obtain⟨its,r,pl,hz⟩:=I.list hq;refine SeqAt.notIn_listAt (eqU x) pl.isList (λw hw=>DZ rx fx r fs w (by simpa using hw)) ⟨.bl _,H,I,rfl,?_⟩;rw[show its.toArray.any (eqU x)=its.any (eqU x) by simp,GR r fs];exact q
 ·obtain⟨its,r,pl,hz⟩:=I.tuple hq;refine SeqAt.notIn_tupleAt (eqU x) pl (λw hw=>DZ rx fx r fs w (by simpa using hw)) ⟨.bl _,H,I,rfl,?_⟩;rw[show its.toArray.any (eqU x)=its.any (eqU x) by simp,GR r fs];exact q
def tyV(K:PySem.W.Frag)(T:String)(x:V)(H:Hp):Prop:=match x with
 | .str _=>T = "str"
 | .int _=>T = "int"
 | .ref p=>(T = "list" /\ ∃xs,SqL K H p xs)∨(T = "tuple" /\ ∃o,K.lookup p=some o/\o.cls=.type "tuple" /\ o.dict=none) ∨
   (T = "dict" /\ ((∃kvs,H p=some (.dK kvs))∨∃kvs,H p=some (.dT kvs)))∨(T = "set" /\ ∃S n,H p=some (.set S n))
 |_=>False
theorem Rt(I:Inv X pins σ H s)(r:RelV x v)(ty:tyV X.K T x H):
  s.TypeIs v T/\∀a,v=.ref a->∃ob,s.heap.get? a=some ob/\ob.dict=none:=by
 cases x with
 |str z=>
  obtain⟨t,rfl⟩:=r;cases (show T = "str" from ty);exact⟨typeIs_str s z t,λ_ e=>nomatch e⟩
 |int i=>
  obtain⟨t,rfl⟩:=r;cases (show T = "int" from ty);exact⟨typeIs_int s i t,λ_ e=>nomatch e⟩
 |ref p=>
  cases r;rcases ty with ⟨rfl,xs,hq⟩|⟨rfl,o,hk,hc,hd⟩|⟨rfl,hk⟩|⟨rfl,S,n,hk⟩
  ·obtain⟨its,_,pl,_⟩:=I.list hq;refine⟨pl.isList.typeIs,λa e=>?_⟩;cases e;obtain⟨o,n,e,c,hd,_⟩:=pl;exact⟨o,e,hd⟩
  ·refine⟨⟨o,I.kIn p o hk,hc⟩,λa e=>?_⟩;cases e;exact⟨o,I.kIn _ o hk,hd⟩
  ·have z:∃o,s.heap.get? p=some o/\o.ExactDict:=by
    rcases hk with ⟨kvs,hk⟩|⟨kvs,hk⟩
    ·obtain⟨_,_,_,_,o,_,_,e,ex,_⟩:=I.hok p _ hk;exact⟨o,e,ex⟩
    ·obtain⟨_,_,_,_,o,_,_,e,ex,_⟩:=I.hok p _ hk;exact⟨o,e,ex⟩
   obtain⟨o,e,ex⟩:=z;refine⟨⟨o,e,ex.1⟩,λa e2=>?_⟩;cases e2;exact⟨o,e,ex.2.1⟩
  ·obtain⟨o,_,_,_,e,ex,_⟩:=I.hok p _ hk;refine⟨⟨o,e,ex.1⟩,λa e2=>?_⟩;cases e2;exact⟨o,e,ex.2.1⟩
 |_=>exact False.elim ty
noncomputable def Zd(K:PySem.W.Frag)(T:String)(r:V->List V->Hp->VK->Prop)(to:TE):TE:=λσ H Q=>to σ H λx H1=>tyV K T x H1/\r x [] H1 Q
noncomputable def tBM(K:PySem.W.Frag)(T:String)(r:V->List V->Hp->VK->Prop)(to:TE)(t:TA):TE:=λσ H Q=>to σ H λx H1=>tyV K T x H1/\t σ H1 λxs H2=>r x xs H2 Q
variable{o e:Expr}{es:List Expr}{to:TE}{t:TA}{name:Str}{apos cpos:Pos}{T id:String}{r:V->List V->Hp->VK->Prop}
theorem YD(pa:PlainAttrs T)(slot:Slot T name id)(hty:typeOf (.builtin id)=pure (.type "method_descriptor"))(hm:MtR X id r)(ho:PE X o to)
  (hbase:attributeBase o name X.env (eval o X.env)=eval o X.env:=by rfl) (hline:(apos.endLine==cpos.line)=true:=by rfl):PE X (.Call (.Attribute o name apos) [] [] cpos) (Zd X.K T r to):=by
 intro pins s σ H Q I h;refine wpAny_Call_method0_late hbase hline (thn (ho pins s σ H _ I h) λv s1 ⟨x,H1,I1,r1,ty,q1⟩=>?_);obtain⟨h1,h2⟩:=Rt I1 r1 ty;exact⟨T,id,pa,slot,hty,h1,h2,Calls.callWith_builtin rfl (PySem.evalArgs_none (hm pins s1 σ H1 x [] v [] Q I1 r1 .nil q1))⟩
theorem Zv(pa:PlainAttrs T)(slot:Slot T name id)(hty:typeOf (.builtin id)=pure (.type "method_descriptor"))(hm:MtR X id r)(ho:PE X o to)(ha:PA X (e::es) t)
  (hbase:attributeBase o name X.env (eval o X.env)=eval o X.env:=by rfl)
  (hfew:((backTo cpos (starEach (e::es) X.env)).all (λx=>!x.1)&&(backToKw cpos (keywordEach [] X.env)).all (λx=>x.1.isSome)
   && decide ((e::es).length+([]:List Keyword).length+(if ([]:List Keyword).isEmpty then 0 else 1)<30))=true:=by rfl)
  (hline:(apos.endLine==cpos.line)=true:=by rfl) (hs:starEach (e::es) X.env=(false,eval e X.env)::starEach es X.env:=by rfl) (hplain:(backTo cpos (starEach es X.env)).any (·.1)=false:=by rfl) :
  PE X (.Call (.Attribute o name apos) (e::es) [] cpos) (tBM X.K T r to t):=by
 intro pins s σ H Q I h;refine wpAny_Call_method_late hbase hfew hline rfl (thn (ho pins s σ H _ I h) λv s1 ⟨x,H1,I1,r1,ty,q1⟩=>?_);obtain⟨h1,h2⟩:=Rt I1 r1 ty;refine⟨T,id,pa,slot,hty,h1,h2,?_⟩;have hA:=ha cpos pins s1 σ H1 _ I1 q1;rw[hs] at hA ⊢;refine Calls.callWith_builtin (by show (false||(backTo cpos (starEach es X.env)).any (·.1))=false;rw[hplain]<;>rfl) (Calls.evalArgs_plain ?_);exact thn hA λus s2 ⟨vs,H2,I2,r2,q2⟩=>hm pins s2 σ H2 x vs v us Q I2 r1 r2 q2
end
def MtM(X:Cx)(id:String)(r:V->List V->Hp->VK->Prop):Prop:=
 ∀(pins:List (Addr×Obj)) (s:Shared) (σ:St) (H:Hp) (x:V) (xs:List V) (v:Value) (us:List Value) (Q:VK),Inv X pins σ H s->RelV x v->Vals xs us->r x xs H Q->
  wpAny (model X.prog X.w) X.A (call (.builtin id) (v::us)) (EP X pins σ Q) X.xe s
theorem Vals.one:∀{x:V} {us:List Value},Vals [x] us->∃u,us=[u]/\RelV x u
 |_,_,.cons r .nil=>⟨_,rfl,r⟩
theorem Vals.two:∀{x y:V} {us:List Value},Vals [x,y] us->∃u v,us=[u,v]/\RelV x u/\RelV y v
 |_,_,_,.cons r (.cons q .nil)=>⟨_,_,rfl,r,q⟩
theorem Vals.zero:∀{us:List Value},Vals [] us->us=[]
 |_,.nil=>rfl
theorem Vals.dropLast(h:Vals xs us):Vals xs.dropLast us.dropLast:=by
 induction h with
 |nil=>exact .nil
 |cons r t ih=>
  cases t with
  |nil=>exact .nil
  |cons q t'=>exact .cons r ih
theorem Vals.reverse(h:Vals xs us):Vals xs.reverse us.reverse:=by
 induction h with
 |nil=>exact .nil
 |cons r t ih=>rw[List.reverse_cons,List.reverse_cons];exact Vals.append ih (.cons r .nil)
theorem Vals.rep(h:Vals xs us):∀k:Nat,Vals (List.replicate k xs).flatten (List.replicate k us).flatten
 |0=>.nil
 |k+1=>by
  rw[AAl,AAl,List.flatten_cons,List.flatten_cons];exact Vals.append h (Vals.rep h k)
theorem N6(l:List α):l.eraseIdx (l.length-1)=l.dropLast:=by
 induction l with
 |nil=>rfl
 |cons a r ih=>
  cases r with
  |nil=>rfl
  |cons b r=>
   have e:(a::b::r).length-1=((b::r).length-1)+1:=by
    have h1:(a::b::r).length=r.length+2:=rfl;have h2:(b::r).length=r.length+1:=rfl;omega
   rw[e,List.eraseIdx_cons_succ,ih]
   all_goals rfl
theorem KC(its:List Value):∀(k:Nat) (acc:List Value),
  List.foldl (λx1 x2=>x1++x2) acc.toArray (List.replicate k its.toArray)=(acc++(List.replicate k its).flatten).toArray
 |0,acc=>by simp
 |k+1,acc=>by
  have e:acc.toArray++its.toArray=(acc++its).toArray:=by simp
  have e2:(acc++its)++(List.replicate k its).flatten=acc++(List.replicate (k+1) its).flatten:=by
   rw[AAl,List.flatten_cons,List.append_assoc]
  rw[←e2,←KC its k (acc++its),←e,AAl,List.foldl_cons]
section
variable{X:Cx}{pins:List (Addr×Obj)}{σ:St}{H:Hp}{s:Shared}{l:Addr}{xs ys:List V}
theorem Inv.lset{its its':List Value}{n:Nat}{f:Array Value->Array Value}{t':Nat}(I:Inv X pins σ H s)(hH:H l=some (.lst xs))
  (e:s.heap.get? l=some { cls:=.type "list",data:=.seq its.toArray n }) (hf:f its.toArray=its'.toArray) (hv:Vals ys its') (hz:ys.length<=sizeLine) :
  Inv X pins σ (upd H l (.lst ys)) { s with heap:=s.heap.update l (Obj.mapSeq f),toks:=t' }:=by
 have q:=PySem.IsL.update e f;rw[hf] at q;refine I.write (x:=l) (e:=l) (by rw[hH];exact trivial) (.inl rfl) (λb' u hb hu=>(Heap.get?_update_other s.heap (Obj.mapSeq f) (Ne.symm hb)).trans hu) ⟨_,q⟩ ?_;exact⟨hz,its',_,hv,q⟩
theorem Inv.lnew(I:Inv X pins σ H s)(hv:Vals ys its)(hz:ys.length<=sizeLine):
  Inv X pins σ (upd H s.heap.objs.size (.lst ys)) { s with heap:=s.heap.push { cls:=.type "list",data:=.seq its.toArray },toks:=t' }:=
 I.laid (λ_ _ q=>AAC _ q) (AAF _) ⟨hz,its,0,hv,AAD _ rfl⟩
theorem Inv.fresh(I:Inv X pins σ H s):H s.heap.objs.size=none:=I.hok.fresh (AAF _)
theorem Inv.lstM(I:Inv X pins σ H s)(hH:H l=some (.lst xs)):xs.length<=sizeLine/\∃(its:List Value) (n:Nat),Vals xs its/\xs.length=its.length/\s.heap.get? l=some { cls:=.type "list",data:=.seq its.toArray n }:=by
 obtain⟨z,its,n,r,e⟩:=I.hok l _ hH;exact⟨z,its,n,r,r.length,e⟩
theorem MF(h:n<=sizeLine):Builtin.List.listTooLong n=false:=by
 unfold Builtin.List.listTooLong;exact AAO (by omega)
end
section
variable{X:Cx}
noncomputable def VP:V->List V->Hp->VK->Prop:=λx vs H Q=>∃l xs y,x=.ref l/\vs=[y]/\H l=some (.lst xs)/\xs.length<sizeLine/\Q .non (upd H l (.lst (xs++[y])))
theorem Qh:MtM X "list.append" VP:=by
 intro pins s σ H x vs v us Q I rx rv h;obtain⟨l,xs,y,rfl,rfl,hH,hz,q⟩:=h;cases rx;obtain⟨u,rfl,ru⟩:=rv.one;obtain⟨z,its,n,r,hl,e⟩:=I.lstM hH;refine call_meets F.slot_list_append ⟨_,e,rfl⟩ F.entry_list_append (F.args_list_append_2 _ _) (PySem.list_append l its.toArray n u (by rw[List.size_toArray];omega)) ⟨e,?_⟩;refine⟨.non,_,I.lset (its':=its++[u]) hH e (by simp) (r.append (.cons ru .nil)) ?_,rfl,q⟩;rw[AAH,List.length_singleton];omega
noncomputable def VO:V->List V->Hp->VK->Prop:=λx vs H Q=>∃l b xs zs,x=.ref l/\vs=[.ref b]/\H l=some (.lst xs)/\H b=some (.lst zs)/\xs.length+zs.length<=sizeLine/\Q .non (upd H l (.lst (xs++zs)))
theorem Qg:MtM X "list.extend" VO:=by
 intro pins s σ H x vs v us Q I rx rv h;obtain⟨l,b,xs,zs,rfl,rfl,hH,hB,hz,q⟩:=h;cases rx;obtain⟨u,rfl,ru⟩:=rv.one;cases ru;obtain⟨z,its,n,r,hl,e⟩:=I.lstM hH;obtain⟨z2,its2,n2,r2,hl2,e2⟩:=I.lstM hB;have hsz:its.toArray.size+its2.toArray.size<=sizeLine:=by rw[List.size_toArray,List.size_toArray];omega
 have hlong:¬(!its.toArray.isEmpty&&Builtin.List.listTooLong (its.toArray.size+its2.toArray.size))=true:=by
  rw[MF hsz,Bool.and_false];exact AAg
 refine call_meets F.slot_list_extend ⟨_,e,rfl⟩ F.entry_list_extend (F.args_list_extend_2 _ _)
  (AutoSeq1.list_extend_list_list_0 l its.toArray n b its2.toArray n2 hlong (by rw[List.size_toArray];omega) (by omega)) ⟨e,e2,?_⟩
 refine⟨.non,_,I.lset (its':=its++its2) hH e (by simp) (r.append r2) ?_,rfl,q⟩;rw[AAH];omega
noncomputable def bc:V->List V->Hp->VK->Prop:=λx vs H Q=>∃l xs y,x=.ref l/\vs=[]/\H l=some (.lst xs)/\xs[xs.length-1]?=some y/\Q y (upd H l (.lst xs.dropLast))
theorem YS:MtM X "list.pop" bc:=by
 intro pins s σ H x vs v us Q I rx rv h;obtain⟨l,xs,y,rfl,rfl,hH,hy,q⟩:=h;cases rx;have hus:=rv.zero;subst hus;obtain⟨z,its,n,r,hl,e⟩:=I.lstM hH;obtain⟨u,hu,ru⟩:=r.get hy;have hy':its.toArray[its.toArray.size-1]?=some u:=by
  show its.toArray[its.length-1]?=some u;rw[←Array.getElem?_toList,←hl];exact hu
 refine call_meets F.slot_list_pop ⟨_,e,rfl⟩ F.entry_list_pop (F.args_list_pop_1 _) (MeetsSeq.list_pop_last l its.toArray n u hy' (by rw[List.size_toArray];omega)) ⟨e,?_⟩;refine⟨y,_,I.lset (its':=its.dropLast) hH e ?_ r.dropLast ?_,ru,q⟩
 ·show its.toArray.eraseIdxIfInBounds (its.toArray.size-1)=its.dropLast.toArray;rw[List.size_toArray,List.eraseIdxIfInBounds_toArray,N6]
 ·rw[List.length_dropLast];omega
noncomputable def bh:R2:=λx y H Q=>∃l b xs zs,x=.ref l/\y=.ref b/\H l=some (.lst xs)/\H b=some (.lst zs)/\xs.length+zs.length<=sizeLine/\∀p,H p=none->Q (.ref p) (upd H p (.lst (xs++zs)))
theorem TR:OpR X (binaryOp .Add) bh:=by
 intro pins s σ H x y v u Q I rx ry h;obtain⟨l,b,xs,zs,rfl,rfl,hH,hB,hz,q⟩:=h;cases rx;cases ry;obtain⟨z,its,n,r,hl,e⟩:=I.lstM hH;obtain⟨z2,its2,n2,r2,hl2,e2⟩:=I.lstM hB;refine PySem.P.add_list e e2 ?_ (by rw[List.size_toArray,List.size_toArray];omega);have ea:its.toArray++its2.toArray=(its++its2).toArray:=by simp
 rw[ea];exact⟨.ref _,_,I.lnew (t':=s.toks) (r.append r2) (by rw[AAH];omega),rfl,q _ I.fresh⟩
noncomputable def bb:R2:=λx y H Q=>∃l k xs,x=.ref l/\y=.int k/\H l=some (.lst xs)/\-(2 ^ 63)<=k/\k<2 ^ 63/\xs.length * k.toNat<=sizeLine /\
 ∀p,H p=none->Q (.ref p) (upd H p (.lst (List.replicate k.toNat xs).flatten))
theorem PP(xs:List α)(k:Nat):(List.replicate k xs).flatten.length=k * xs.length:=by
 induction k with
 |zero=>simp
 |succ k ih=>rw[AAl,List.flatten_cons,AAH,ih,Nat.succ_mul,Nat.add_comm]
theorem YI:OpR X (binaryOp .Mult) bb:=by
 intro pins s σ H x y v u Q I rx ry h;obtain⟨l,k,xs,rfl,rfl,hH,h1,h2,hz,q⟩:=h;cases rx;obtain⟨t,rfl⟩:=ry;obtain⟨z,its,n,r,hl,e⟩:=I.lstM hH;have hlen:its.toArray.size * k.toNat<=sizeLine:=by rw[List.size_toArray,←hl];exact hz
 have hcap:¬its.toArray.size * k.toNat > (2 ^ 63-1) / 8:=by
  have:(sizeLine:Nat)<=(2 ^ 63-1) / 8:=by decide
  omega
 have hfit:¬(!Builtin.List.listFitsIndex k)=true:=by
  rw[fitsIndex_both h1 h2];exact AAg
 have hlong:¬Builtin.List.listTooLong (its.toArray.size * k.toNat)=true:=by
  rw[MF hlen];exact AAg
 have hnew:List.foldl (λx1 x2=>x1++x2) #[] (List.replicate (if its.toArray.isEmpty=true then 0 else k.toNat) its.toArray)=(List.replicate k.toNat its).flatten.toArray:=by
  have f0:∀m:Nat,List.foldl (λx1 x2=>x1++x2) #[] (List.replicate m its.toArray)=(List.replicate m its).flatten.toArray:=λm=>by
   have:=KC its m [];rw[List.nil_append] at this;exact this
  rw[f0];cases its with
  |nil=>simp
  |cons a r'=>rw[if_neg (by simp)]
 refine wpAny_binaryOp_repeat_ref (T := "list") (U := "int") (by decide) ⟨_,e,rfl⟩ (λs'=>typeIs_int s' k t) noFill_list_mul F.fills_int_mul F.slot_int_rmul repeat_list F.slot_int_index.lookup
  (call_meets F.slot_int_rmul (typeIs_int s k t) F.entry_int_rmul (F.args_int_rmul_2 _ _) (int___rmul___int_list k t l its.toArray n)
   ⟨e,rfl,⟨_,e,rfl⟩,call_meets F.slot_list_mul ⟨_,e,rfl⟩ F.entry_list_mul (F.args_list_mul_2 _ _) (AutoListH.list___mul___list_int_3 l its.toArray n k t hfit hcap hlong) ⟨e,?_⟩⟩)
 rw[hnew];exact⟨.ref _,_,I.lnew (t':=s.toks) (r.rep k.toNat) (by rw[PP,Nat.mul_comm];exact hz),rfl,q _ I.fresh⟩
end
section
variable{κ:Type}[DecidableEq κ]
noncomputable def Fa(kvs:List (κ×V))(k:κ):Option V:=(kvs.find? λkv=>decide (kv.1=k)).map (·.2)
noncomputable def Ds(kvs:List (κ×V))(k:κ)(v:V):List (κ×V):=
 if (kvs.any λkv=>decide (kv.1=k))=true then kvs.map (λkv=>if kv.1=k then (kv.1,v) else kv) else kvs++[(k,v)]
theorem Hj{p:κ×V}{r:List (κ×V)}{k:κ}(e:p.1=k):Fa (p::r) k=some p.2:=by simp[Fa,List.find?_cons,e]
theorem Hk{p:κ×V}{r:List (κ×V)}{k:κ}(e:¬p.1=k):Fa (p::r) k=Fa r k:=by simp[Fa,List.find?_cons,e]
theorem LZ(k:κ):∀kvs:List (κ×V),(kvs.any λkv=>decide (kv.1=k))=(Fa kvs k).isSome
 |[]=>rfl
 |p::r=>by
  rw[List.any_cons];by_cases e:p.1=k
  ·simp only[Hj e,AAP e,Bool.true_or,Option.isSome_some]
  ·rw[Hk e,AAO e,Bool.false_or];exact LZ k r
theorem El(kvs:List (κ×V))(k:κ)(v:V):(Ds kvs k v).length<=kvs.length+1:=by
 unfold Ds;split
 ·rw[AAG];omega
 ·rw[AAH,AAI,List.length_nil];omega
theorem RelO.isSome_eq(r:RelO o u):o.isSome=u.isSome:=by
 cases o with
 |none=>cases u with
  |none=>rfl
  |some _=>exact(show False from r).elim
 |some _=>cases u with
  |none=>exact(show False from r).elim
  |some _=>rfl
theorem KV.val{kvs:List (κ×V)}{vs:List (κ×Value)}(r:KV kvs vs)(k:κ):RelO (Fa kvs k) (valueAt vs k):=by
 unfold KV at r
 induction r with
 |nil=>exact True.intro
 |@cons p q ps qs h t ih=>
  obtain⟨h1,h2⟩:=h;by_cases e:p.1=k
  ·have e':q.1=k:=h1.symm.trans e;have b:valueAt (q::qs) k=some q.2:=by simp[valueAt,List.find?_cons,e']
   rw[Hj e,b];exact h2
  ·have e':¬q.1=k:=λz=>e (h1.trans z);have b:valueAt (q::qs) k=valueAt qs k:=by simp[valueAt,List.find?_cons,e']
   rw[Hk e,b];exact ih
theorem KV.any(r:KV kvs vs)(k:κ):(kvs.any λkv=>decide (kv.1=k))=vs.any λkv=>decide (kv.1=k):=by
 unfold KV at r
 induction r with
 |nil=>rfl
 |cons h t ih=>rw[List.any_cons,List.any_cons,ih,h.1]
theorem KV.repl(r:KV kvs vs)(k:κ)(ry:RelV y u):
  KV (kvs.map λkv=>if kv.1=k then (kv.1,y) else kv) (vs.map λkv=>if kv.1=k then (kv.1,u) else kv):=by
 unfold KV at r ⊢
 induction r with
 |nil=>exact .nil
 |@cons p q ps qs h t ih=>
  rw[AAX,AAX];refine .cons ?_ ih;obtain⟨h1,h2⟩:=h;by_cases e:p.1=k
  ·rw[if_pos e,if_pos (h1.symm.trans e)];exact⟨h1,ry⟩
  ·rw[if_neg e,if_neg (λz=>e (h1.trans z))];exact⟨h1,h2⟩
theorem KV.put(r:KV kvs vs)(k:κ)(ry:RelV y u):KV (Ds kvs k y) (stored vs k u):=by
 unfold Ds stored;rw[r.any k];by_cases e:(vs.any λkv=>decide (kv.1=k))=true
 ·rw[if_pos e,if_pos e];exact r.repl k ry
 ·rw[if_neg e,if_neg e];exact Paired.snoc r ⟨rfl,ry⟩
theorem KV.length(r:KV kvs vs):kvs.length=vs.length:=Paired.length r
end
theorem PU(r:RelV (kV k) u):(BL P w).is k u=true:=by
 cases k with
 |inl i=>obtain⟨t,e⟩:=(show ∃t,u=Value.int i t from r);subst e;exact MJ P w i t
 |inr x=>obtain⟨t,e⟩:=(show ∃t,u=Value.str x t from r);subst e;exact MI P w x t
theorem J6:∀{ks:List Key} {us:List Value},Vals (ks.map kV) us->ItemsAre (BL P w) ks us
 |[],_,r=>by rw[List.map_nil] at r;cases r;exact .nil
 |k::ks,_,r=>by
  rw[AAX] at r;cases r with
  |cons h t=>exact .cons (PU h) (J6 t)
noncomputable abbrev KT(H:Hp):List (List Key×V)->List (List Key×Addr×Value)->Prop:=Paired λp q=>p.1=q.1/\H q.2.1=some (.tup (p.1.map kV))/\RelV p.2 q.2.2
theorem KT.val{H:Hp}{kvs:List (List Key×V)}{xs:List (List Key×Addr×Value)}(r:KT H kvs xs)(k:List Key):RelO (Fa kvs k) ((atKey xs k).map (·.2)):=by
 induction r with
 |nil=>exact True.intro
 |@cons p q ps qs h t ih=>
  obtain⟨h1,_,h2⟩:=h;by_cases e:p.1=k
  ·have e':q.1=k:=h1.symm.trans e;have b:atKey (q::qs) k=some q.2:=by simp[atKey,List.find?_cons,e']
   rw[Hj e,b];exact h2
  ·have e':¬q.1=k:=λz=>e (h1.trans z);have b:atKey (q::qs) k=atKey qs k:=by simp[atKey,List.find?_cons,e']
   rw[Hk e,b];exact ih
theorem KT.repl(r:KT H kvs xs)(k:List Key)(ry:RelV y u):
  KT H (kvs.map λkv=>if kv.1=k then (kv.1,y) else kv) (xs.map (putAt k u)):=by
 induction r with
 |nil=>exact .nil
 |@cons p q ps qs h t ih=>
  rw[AAX,AAX];refine .cons ?_ ih;obtain⟨h1,h2,h3⟩:=h;unfold putAt;by_cases e:p.1=k
  ·rw[if_pos e,if_pos (h1.symm.trans e)];exact⟨h1,h2,ry⟩
  ·rw[if_neg e,if_neg (λz=>e (h1.trans z))];exact⟨h1,h2,h3⟩
theorem KT.put(r:KT H kvs xs)(k:List Key)(hb:H b=some (.tup (k.map kV)))(ry:RelV y u):
  KT H (Ds kvs k y) (storedH xs k b u):=by
 have e:(kvs.any λkv=>decide (kv.1=k))=(atKey xs k).isSome:=by
  rw[LZ,(r.val k).isSome_eq,Option.isSome_map]
 unfold Ds storedH;rw[e];by_cases q:(atKey xs k).isSome=true
 ·rw[if_pos q,if_pos q];exact r.repl k ry
 ·rw[if_neg q,if_neg q];exact Paired.snoc r ⟨rfl,hb,ry⟩
theorem KT.keeps(r:KT H kvs xs)(ht:∀b ys,H b=some (.tup ys)->H' b=some (.tup ys)):KT H' kvs xs:=
 Paired.mapP r λ_ _ z=>⟨z.1,ht _ _ z.2.1,z.2.2⟩
section
variable{P:Program}{w:World}{H:Hp}{h:Heap}{a:Addr}
theorem Wg(ok:HOk P w H h)(e:Rd H a u):ObjOk P w H h a u:=e.ok ok
theorem Pf(ok:HOk P w H h)(e:Rd H a (.dK kvs)):kvs.length<=sizeLine/\(a==sysModules)=false/\∃vs,KV kvs vs/\h.DictOf (BL P w) a vs:=
 show ObjOk P w H h a (.dK kvs) from Wg ok e
theorem T9(ok:HOk P w H h)(e:H a=some (.dK kvs)):kvs.length<=sizeLine/\(a==sysModules)=false/\∃vs,KV kvs vs/\h.DictOf (BL P w) a vs:=Pf ok (.inl e)
theorem Nw(ok:HOk P w H h)(e:H a=some (.tup (ks.map kV))):(tupleKind (BL P w)).is h ks a:=by
 obtain⟨_,its,r,o,h1,h2,n,h3⟩:=(show ObjOk P w H h a (.tup (ks.map kV)) from ok a _ e);exact⟨o,its.toArray,n,h1,h2,h3,by simpa using J6 r⟩
theorem T8(ok:HOk P w H h)(e:Rd H a (.dT kvs)):kvs.length<=sizeLine/\(a==sysModules)=false /\
  ∃xs,KT H kvs xs/\h.DictOfH (tupleKind (BL P w)) a xs:=by
 obtain⟨z,y,xs,r,o,es,ep,h1,h2,h3,h4,h5⟩:=(show ObjOk P w H h a (.dT kvs) from Wg ok e);refine⟨z,y,xs,r,o,es,ep,h1,h2,h3,h4,λx hx=>?_,h5⟩;have all:∀{l:List (List Key×V)} {m:List (List Key×Addr×Value)},KT H l m->∀x∈m,(tupleKind (BL P w)).is h x.1 x.2.1:=by
  intro l m q
  induction q with
  |nil=>intro x hx;exact nomatch hx
  |@cons p q ps qs hq t ih=>
   intro x hx;rcases AAJ.mp hx with e|hx
   ·subst e;exact Nw ok (by rw[←hq.1];exact hq.2.1)
   ·exact ih x hx
 exact all r x hx
theorem aL(ok:HOk P w H h)(e:H a=some (.dT kvs)):kvs.length<=sizeLine/\(a==sysModules)=false /\
  ∃xs,KT H kvs xs/\h.DictOfH (tupleKind (BL P w)) a xs:=T8 ok (.inl e)
end
def DGet(H:Hp)(a:Addr)(y:V)(r:Option V):Prop:=
 (∃kvs k,Rd H a (.dK kvs)/\y=kV k/\r=Fa kvs k)∨∃kvs k b,Rd H a (.dT kvs)/\y=.ref b/\H b=some (.tup (k.map kV))/\r=Fa kvs k
def DPut(H:Hp)(a:Addr)(y v:V)(H':Hp):Prop:=
 (∃kvs k,H a=some (.dK kvs)/\y=kV k/\kvs.length<sizeLine/\H'=upd H a (.dK (Ds kvs k v))) ∨
 ∃kvs k b,H a=some (.dT kvs)/\y=.ref b/\H b=some (.tup (k.map kV))/\kvs.length<sizeLine/\H'=upd H a (.dT (Ds kvs k v))
theorem DGet.k{H:Hp}{a:Addr}{kvs:List (Key×V)}{k:Key}(e:H a=some (.dK kvs)):DGet H a (kV k) (Fa kvs k):=.inl ⟨kvs,k,.inl e,rfl,rfl⟩
theorem DPut.k{H:Hp}{a:Addr}{kvs:List (Key×V)}{k:Key}{v:V}(e:H a=some (.dK kvs))(hl:kvs.length<sizeLine):DPut H a (kV k) v (upd H a (.dK (Ds kvs k v))):=.inl ⟨kvs,k,e,rfl,hl,rfl⟩
section
variable{X:Cx}{pins:List (Addr×Obj)}{σ:St}{H:Hp}{s:Shared}{a:Addr}{y v:V}{u r:Value}{o:Option V}{A:Around}{E:Value->Shared->Prop}
theorem Inv.big(I:Inv X pins σ H s):sysModules<s.heap.objs.size:=by
 have h:mainGlobals<s.heap.objs.size:=(I.mod.glob.keeps I.bk).lt;exact Nat.lt_trans (by decide) h
theorem Q4(hu:A.units+1<cLine)(I:Inv X pins σ H s)(g:DGet H a y (some v))(ry:RelV y u)(h:∀w' s',Inv X pins σ H s'->RelV v w'->Q w' s'):
  wpAny (model X.prog X.w) A (getItem (.ref a) u) Q E s:=by
 rcases g with ⟨kvs,k,e,ey,l⟩|⟨kvs,k,b,e,ey,eb,l⟩
 ·subst ey;obtain⟨z,hd,vs,rel,dd⟩:=Pf I.hok e;obtain⟨w',hw,rw'⟩:=RelO.some_of (v:=v) (o:=valueAt vs k) (by rw[l];exact rel.val k);exact wpAny_getItem_of (PU ry) dd.mapOf hw (h w' _ (I.tok _) rw')
 ·subst ey;cases (show u=Value.ref b from ry);obtain⟨z,hd,xs,rel,dd⟩:=T8 I.hok e;obtain⟨w',hw,rw'⟩:=RelO.some_of (v:=v) (o:=(atKey xs k).map (·.2)) (by rw[l];exact rel.val k);obtain⟨p,hp,hp2⟩:=Option.map_eq_some_iff.mp hw;refine wpAny_getItem_heap (tupleKind_room_in1 hu) (Nw I.hok eb) dd hp ?_;rw[hp2];exact h w' _ (I.tok _) rw'
theorem Hc(I:Inv X pins σ H s)(mu:Mut (H a))(hs:Heap.SameBut a s.heap h')(he:∃q,h'.get? a=some q)(new:ObjOk X.prog X.w (upd H a ob) h' a ob):
  Inv X pins σ (upd H a ob) { s with heap:=h',toks:=t' }:=
 I.write (x:=a) (e:=a) mu (.inl rfl) (λb q hb z=>(hs.2 b hb).trans z) he new
theorem N8(z:kvs.length<=sizeLine)(hd:(a==sysModules)=false)(rel:KV kvs vs)(dd:h'.DictOf (BL P w) a vs):
  ObjOk P w H' h' a (.dK kvs):=⟨z,hd,vs,rel,dd⟩
theorem Q3(hu:A.units+1<cLine)(I:Inv X pins σ H s)(g:DPut H a y v H')(ry:RelV y u)(rv:RelV v r)(h:∀s',Inv X pins σ H' s'->Q () s'):
  wpAny (model X.prog X.w) A (setItem (.ref a) u r) Q E s:=by
 rcases g with ⟨kvs,k,e,ey,l,eH⟩|⟨kvs,k,b,e,ey,eb,l,eH⟩
 ·subst ey eH;obtain⟨z,hd,vs,rel,dd⟩:=T9 I.hok e;have hz:vs.length<=sizeLine:=by rw[←rel.length];exact z
  have hl:(Ds kvs k v).length<=sizeLine:=by have:=El kvs k v;omega
  refine wpAny_setItem_pairs (hsz:=hz) (PU ry) dd λh' dd' hs=>h _ ?_;have he:∃q,h'.get? a=some q:=let ⟨q,_,_,hq,_⟩:=dd';⟨q,hq⟩
  exact Hc I (by rw[e];exact True.intro) hs he (N8 hl hd (rel.put k rv) dd')
 ·subst ey eH;cases (show u=Value.ref b from ry);obtain⟨z,hd,xs,rel,dd⟩:=aL I.hok e;have hz:xs.length<=sizeLine:=by rw[←Paired.length rel];exact z
  have hl:(Ds kvs k v).length<=sizeLine:=by have:=El kvs k v;omega
  refine wpAny_setItem_heap (hsz:=hz) (tupleKind_room_in1 hu) (Nw I.hok eb) dd λh' dd' hs=>h _ ?_;obtain⟨q,es,ep,hq,h2,h3,h4,_,h5⟩:=dd';refine Hc I (by rw[e];exact True.intro) hs ⟨q,hq⟩ ⟨hl,hd,_,(rel.put k eb rv).keeps λc ys ec=>?_,q,es,ep,hq,h2,h3,h4,h5⟩;rw[A5 (Z8 ec e (λz=>nomatch z))];exact ec
end
def RF(i:Expr):Prop:=∀ov iv,subscripted i false ov iv=operate [ov,iv] (getItem ov iv)
theorem Kj{prog:Program}{w:World}{A:Around}{E:Value->Shared->Prop}{s:Shared}{env:Env}{value slice:Expr}{pos:Pos}{T id:String}{Q:Value->Shared->Prop}
  (hl:typeLookup (.type T) "__getitem__" = pure (some (.builtin id))) (hs:RF slice)
  (h:wpAny (model prog w) A (eval value env) (λo s₁=>wpAny (model prog w) A (eval slice env) (λi s₂=>s₂.TypeIs o T/\wpAny (model prog w) A (getItem o i) Q E s₂) E s₁) E s) :
  wpAny (model prog w) A (eval (.Subscript value slice pos) env) Q E s:=by
 refine Subscript_ (AAj h (λo s₁ h₁=>AAj h₁ (λi s₂ h₂=>?_) λ_ _ x=>x) λ_ _ x=>x);obtain⟨hT,h₂⟩:=h₂;unfold subscriptTail;refine AAA ?_;rw[getitemInPython_of_ne hT.not_modules];refine AAA (wpAny_specialOf hT hl ?_);have fin:wpAny (model prog w) A (subscripted slice false o i) (λr s₃=>wpAny (model prog w) A (letTemporaryGo value o r >>= λ_=>pure r) Q E s₃) E s₂:=by
  rw[hs o i];exact wpAny_operating (AAj h₂ (λr s₃ h₃=>AAA (wpAny_letTemporaryGo (AAB h₃))) λ_ _ x=>x)
 first
  |exact AAB (AAA fin)
  |exact AAA (AAB (AAA fin))
  |exact AAA fin
theorem Mq(I:Inv X pins σ H s)(g:DGet H a y o):s.TypeIs (.ref a) "dict" := by
 rcases g with ⟨kvs,k,e,_,_⟩|⟨kvs,k,b,e,_,_,_⟩
 ·obtain⟨_,_,vs,_,dd⟩:=Pf I.hok e;exact dd.typeIs
 ·obtain⟨_,_,xs,_,dd⟩:=T8 I.hok e;exact dd.typeIs
noncomputable def ZZ(td ty:TE):TE:=λσ H Q=>td σ H λx H1=>ty σ H1 λy H2=>∃a v,x=.ref a/\DGet H2 a y (some v)/\Q v H2
noncomputable def Zg(td ty tv:TE):TS:=λD σ H=>tv σ H λv H1=>td σ H1 λx H2=>ty σ H2 λy H3=>∃a H4,x=.ref a/\DPut H3 a y v H4/\D.nx σ H4
section
variable{X:Cx}{o i value:Expr}{pos pos':Pos}{td ty tv:TE}
theorem Vg(hu:X.A.units+1<cLine)(ho:PE X o td)(hi:PE X i ty)(hs:RF i):PE X (.Subscript o i pos) (ZZ td ty):=by
 intro pins s σ H Q I h;refine Kj PySem.F.slot_dict_getitem.lookup hs (thn (ho pins s σ H _ I h) λu s1 ⟨x,H1,I1,rx,q1⟩=>thn (hi pins s1 σ H1 _ I1 q1) λiv s2 ⟨y,H2,I2,ry,a,v,ex,g,q2⟩=>?_);subst ex;obtain rfl:u=Value.ref a:=rx;exact⟨Mq I2 g,Q4 hu I2 g ry λw' s3 I3 rw'=>⟨v,H2,I3,rw',q2⟩⟩
theorem VX(hu:X.A.units+1<cLine)(ho:PE X o td)(hi:PE X i ty)(hv:PE X value tv)(hs:swapsWith value (some (.Subscript o i pos')) pos.line X.env=pure false):
  PS X (.Assign [.Subscript o i pos'] value pos) (Zg td ty tv):=by
 intro pins s σ H D I h;refine wpAny_Assign_Subscript (thn (hv pins s σ H _ I h) λr s1 ⟨v,H1,I1,rv,q1⟩=>thn (ho pins s1 σ H1 _ I1 q1) λu s2 ⟨x,H2,I2,rx,q2⟩=>thn (hi pins s2 σ H2 _ I2 q2) λiv s3 ⟨y,H3,I3,ry,a,H4,ex,g,q3⟩=>?_) hs;subst ex;obtain rfl:u=Value.ref a:=rx;exact Q3 hu I3 g ry rv λs4 I4=>⟨σ,H4,I4,q3⟩
end
theorem UA(h:Heap)(hb:sysModules<h.objs.size):ObjOk P w H (h.push { cls:=.type "dict",data:=.dict #[] }) h.objs.size (.dK []):=
 ⟨AAk _,AAf.mpr (Ne.symm (AAe hb)),[],.nil,Heap.DictOf.new h⟩
noncomputable def Xh:TE:=λ_ H Q=>∀p,H p=none->Q (.ref p) (upd H p (.dK []))
section
variable{X:Cx}{pos:Pos}
theorem TF:PE X (.Dict [] [] pos) Xh:=λpins s σ H Q I h=>
 wpAny_Dict_empty ⟨.ref s.heap.objs.size,_,I.laid (a:=s.heap.objs.size) (o:=.dK []) (t':=s.toks) (λ_ _ q=>AAC _ q) (AAF _) (UA s.heap I.big),rfl,h _ (I.hok.fresh (AAF _))⟩
end
noncomputable def Gi(kvs more:List (Key×V)):List (Key×V):=more.foldl (λacc kv=>Ds acc kv.1 kv.2) kvs
theorem KV.merge:∀{more:List (Key×V)} {rs:List (Key×Value)} {kvs:List (Key×V)} {vs:List (Key×Value)},KV more rs->KV kvs vs->KV (Gi kvs more) (merged vs rs):=by
 intro more rs kvs vs r;unfold KV at r
 induction r generalizing kvs vs with
 |nil=>intro q;exact q
 |@cons p q ps qs h t ih=>
  intro r0;have e:KV (Ds kvs p.1 p.2) (stored vs q.1 q.2):=by
   have:=r0.put p.1 h.2;rw[←h.1];exact this
  exact ih e
theorem FT:∀(more kvs:List (Key×V)),(Gi kvs more).length<=kvs.length+more.length
 |[],kvs=>by show kvs.length<=kvs.length+0;omega
 |p::r,kvs=>by
  have h1:=FT r (Ds kvs p.1 p.2);have h2:=El kvs p.1 p.2;show (Gi (Ds kvs p.1 p.2) r).length<=_;rw[AAI];omega
section
variable{X:Cx}{pins:List (Addr×Obj)}{σ:St}{H:Hp}{s:Shared}{a:Addr}{kvs:List (Key×V)}{A:Around}{E:Value->Shared->Prop}
theorem UB(I:Inv X pins σ H s)(e:Rd H a (.dK kvs))(h:∀p s',H p=none->Inv X pins σ (upd H p (.dK kvs)) s'->Q (.ref p) s'):wpAny (model X.prog X.w) A (call (.type "dict") [.ref a]) Q E s:=by
 obtain⟨z,hd,vs,rel,dd⟩:=Pf I.hok e;refine kt_call_dict hd dd (by rw[←rel.length];exact z) λh' dd' hs=>?_;refine h _ _ (I.hok.fresh (AAF _)) (I.laid (a:=s.heap.objs.size) (o:=.dK kvs) (t':=s.toks) (λb q hq=>?_) (AAF _) (N8 z (AAf.mpr (Ne.symm (AAe I.big))) rel dd'));exact(hs.2 b (AAe (Heap.lt_size hq))).trans (AAC _ hq)
end
end L2
namespace Att
open PySem PySem.W PySem.Calls PyProof.Rows
theorem HR:∀(ns:List Int) (vs:List Value),WellAll P h vs (ns.map WData.int)->IntsAre vs ns:=by
 intro ns
 induction ns with
 |nil=>
  intro vs w;rw[List.map_nil] at w;cases w;exact .nil
 |cons n ns ih=>
  intro vs w;rw[AAX] at w;cases w with
  |cons a b=>
   cases a;exact .cons _ _ (ih _ b)
theorem QK{l:OpenLaw}{n:Nat}(hn:l.most=some n){P:Params}{h:Heap}{args:List WData}{vals:List Value}
  (hpre:l.row.toRowW.claim.pre args=true) (hwl:WellAll P h vals args) :
  ∃a vs ns,vals=[Value.ref a]/\args=[WData.list (ns.map WData.int)]/\h.get? a=some { cls:=.type "list",data:=.seq vs.toArray }/\IntsAre vs ns/\ns.length<=n:=by
 have hsh:WShape.hasAll [] args [.list .int]=true:=(pre_splitW hpre).1;have hc:l.pre.holds [] { args:=args }=true:=(pre_splitW hpre).2;obtain⟨d,r,rfl,h1,h2⟩:=hasAllW_cons hsh;obtain rfl:=hasAllW_nil h2;obtain⟨xs,rfl,h3⟩:=hasW_list h1;obtain⟨ns,rfl⟩:=items_int h3;have hlen:ns.length<=n:=by
  unfold OpenLaw.pre at hc;have h4:(WTm.not (.lt (.lit (.int (n:Int))) (.len (.arg 0)))).holds [] { args:=[.list (ns.map .int)] }=true:=by
   have h4:=(holds_andW hc).1;rw[hn] at h4;exact h4
  have h5:=condW_of h4 (w_not (w_lt w_lit (w_len_list (w_arg rfl))));rw[AAG] at h5;refine Nat.le_of_not_lt λq=>?_;have q':(n:Int)<((ns.length:Nat):Int):=by omega
  first
   |(rw[AAP q'] at h5;exact absurd h5 (by decide))
   |(simp at h5;omega)
 cases hwl with
 |cons w1 w2=>
  cases w2;cases w1 with
  |list ho hall=>exact⟨_,_,ns,rfl,rfl,ho,HR ns _ hall,hlen⟩
theorem QU(l:OpenLaw)(args:List WData):l.row.toRowW.claim.post args (.bool true) args=true:=
 postW_of (r:=l.row.toRowW) (X:=(true==true))
  (show WShape.has [] (.bool true) .bool=true by first|rfl|decide|simp[WShape.has,WShape.arms,WShape.armsAll])
  (show (WTm.eq .res (.lit (.bool true))).value [] { args:=args,res:=some (.bool true),after:=args }=some (.bool (true==true)) from w_eq_bool (w_res rfl) w_lit) rfl
theorem M7{l:OpenLaw}{n:Nat}{q:Program}{loose:List Str}{XP:(Str->Option Value)->Heap->Prop}{YP:World->Heap->Prop}{d:DefRec}
  (hn:l.most=some n) (hdf:d.params.defaults=[])
  (call:∀(w:World) (s₀ s₁:Shared) (mg mb:Str->Option Value) (fa:Addr) (o:Obj) (pm cd doc:Value) (a:Addr) (vs:List Value) (ns:List Int),
   Ground q loose [] XP w s₀ mg mb s₁.heap->YP w s₁.heap->
   s₁.heap.get? fa=some o->o.data=.func (docDef d.name d.params d.body d.scope pm cd doc)->s₁.heap.CodeRec cd d.name->mg d.name=some (.ref fa)->
   s₁.heap.get? a=some { cls:=.type "list",data:=.seq vs.toArray }->IntsAre vs ns->ns.length<=n->s₁.gens=#[]->
   codeAny (model l.prog w) callerA (.call (.ref fa) ⟨[.ref a],[]⟩) (λr s'=>r=.ok (.ret (.bool true))/\OldK s₁.heap s'.heap/\s'.os=s₁.os/\AllBare s'.gens) s₁) :
  WalkO q loose XP YP l.row.toRowW d [] (λf vs=>PySem.call f vs):=by
 intro w s₀ s₁ mg mb G Y fa o pm cd doc dV kV ho hd hcd hD hmg hg args vals as hpre hlay hrd hwl hlo;obtain rfl:dV=.none:=Dflts.none hD hdf;obtain rfl:kV=.none:=Dflts.noKw hD;obtain⟨a,vs,ns,rfl,rfl,hobj,hints,hlen⟩:=QK hn hpre hwl;refine enter_call (codeAny_mono (call w s₀ s₁ mg mb fa o pm cd doc a vs ns G Y ho (fd_plain hd) hcd hmg hobj hints hlen hg) λr s' hq=>?_);obtain⟨rfl,h2,h3,h4⟩:=hq;exact⟨.inl ⟨.bool true,.bool true,[],rfl,λ_=>rfl,.bool true,QU l _,λ_=>⟨List.Pairwise.nil,λ_ hm=>(nomatch hm)⟩⟩,h2,h3,h4⟩
end Att
namespace L2
open PySem PySem.Spec PyProof.Rows
theorem Ey:∀{vs:List Value} {ns:List Int},IntsAre vs ns->Vals (ns.map V.int) vs
 |_,_,.nil=>.nil
 |_,_,.cons n t h=>.cons ⟨t,rfl⟩ (Ey h)
def WU(H:Hp):Prop:=∀b,H b=none∨∃o xs,H b=some (.frz o (.lst xs))
theorem Tg{P:Program}{w:World}{K:PySem.W.Frag}{mg mb:Str->Option Value}{CX:CXT}{k:Nat}{fa a:Addr}{fd:FuncData}{x:Str}{sp:Sp}{s₁:Shared}{vs:List Value}{ns:List Int}
  (KX:K.In s₁.heap) (hns:s₁.heap.Ns mainGlobals mg) (hb:s₁.heap.Ns builtinsNs mb) (hbb:∀x:Str,x ≠ "__name__" -> mb x=bootBuiltins x) (hlim:s₁.heap.NoLimit) (hg:s₁.gens=#[])
  (ha:s₁.heap.get? a=some { cls:=.type "list",data:=.seq vs.toArray }) (hi:IntsAre vs ns) (hl:ns.length<=sizeLine) (hr:Room k callerA)
  (F:∀base:Heap,K.In base->base.Ns mainGlobals mg->FnOk P w K mg base CX k fa fd [x] sp) (hbind:∀(s:Shared) (u:Value),BindsTo s fd ⟨[u],[]⟩ [(x,u)])
  (hsp:∀H:Hp,WU H->SqL K H a (ns.map V.int)->sp [.ref a] H (λv _=>v=.bl true) λ_ _ _=>False)
  (hCX:∀H e s',CX [] H s₁ (λ_ _ _=>False) e s'->False) :
  codeAny (model P w) callerA (.call (.ref fa) ⟨[.ref a],[]⟩) (λr s'=>r=.ok (.ret (.bool true))/\OldK s₁.heap s'.heap/\s'.os=s₁.os/\AllBare s'.gens) s₁:=by
 have rv:=Ey hi;have lenV:=hi.length;have core:∀H:Hp,WU H->SqL K H a (ns.map V.int)->HOk P w H s₁.heap->(∀b,H b≠none->b=a)->(H a≠none->K.lookup a=none)->
   codeAny (model P w) callerA (.call (.ref fa) ⟨[.ref a],[]⟩) (λr s'=>r=.ok (.ret (.bool true))/\OldK s₁.heap s'.heap/\s'.os=s₁.os/\AllBare s'.gens) s₁:=by
  intro H hO hS hok hA hK;have base_of:∀{b:Addr} {o:Obj},s₁.heap.get? b=some o->H b=none->(LC s₁.heap H).get? b=some o:=λe n=>Ts e n;have noA:∀{b:Addr} {o:Obj} {es:Array DictEntry} {ep:Nat},s₁.heap.get? b=some o->o.data=.dict es ep->H b=none:=λ{b o es ep} e d=>by
   cases q:H b with
   |none=>rfl
   |some u=>
    have e':b=a:=hA b (by rw[q];simp);subst e';rw[ha] at e;cases e;have d':Data.seq vs.toArray _=Data.dict es ep:=d;cases d'
  have nsK:∀{b:Addr} {m:Str->Option Value},s₁.heap.Ns b m->(LC s₁.heap H).Ns b m:=λ{b m} ⟨o,es,ep,e,d,r⟩=>⟨o,es,ep,base_of e (noA e d),d,r⟩;have hKb:K.In (LC s₁.heap H):=λb o e=>base_of (KX b o e) (by
   cases q:H b with
   |none=>rfl
   |some u=>
    have e':b=a:=hA b (by rw[q];simp);subst e';rw[hK (by rw[q];simp)] at e;cases e)
  have hM:Mod K mg (LC s₁.heap H):=⟨hKb,nsK hns,⟨mb,nsK hb,hbb⟩,let ⟨mc,h1,h2⟩:=hlim;⟨mc,nsK h1,h2⟩⟩;have e0:Env0 P w K mg (LC s₁.heap H) callerA [] s₁ H:=⟨rfl,hM,λb o e=>Vr e,Nat.le_of_eq (Qt _ _),trivial,λb hb=>absurd (show b∈([]:List Addr) from hb) (by simp),hok,.of_eq hg⟩;refine codeAny_mono ((F _ hKb (nsK hns)).run callerA [] s₁ H ⟨[.ref a],[]⟩ [.ref a] [.ref a] _ _ hr e0 (hbind s₁ (.ref a)) (.cons rfl .nil) (hsp H hO hS)) λr s' h=>?_;cases r with
  |error e=>exact(hCX H e s' h).elim
  |ok fl=>
   cases fl with
   |next=>exact False.elim h
   |brk=>exact False.elim h
   |cont=>exact False.elim h
   |ret u=>
    obtain⟨v,H',os,bare,un,hok',r',q⟩:=h;have q':v=.bl true:=q;subst q';obtain rfl:u=Value.bool true:=r';refine⟨rfl,OldK.of_keep λb o e=>?_,os,bare⟩;cases q:H b with
    |none=>exact un.keep b o e q (by intro z;exact absurd (show b∈([]:List Addr) from z) (by simp)) (by simp)
    |some u=>
     rcases hO b with z|⟨ob,xs,z⟩
     ·rw[q] at z;cases z
     ·have z2:=un.frzs b ob _ z;obtain⟨e1,_⟩:=hok b _ z;obtain⟨e2,_⟩:=hok' b _ z2;rw[e] at e1;cases e1;exact e2
 cases hk:K.lookup a with
 |some o=>
  have e:=KX a o hk;rw[ha] at e;cases e;refine core (λ_=>none) (λ_=>.inl rfl) (.inr ⟨_,vs.toArray,_,hk,rfl,rfl,rfl,by rw[List.size_toArray,lenV];exact hl,by simpa using rv⟩) (λb u z=>by have z':(none:Option HO)=some u:=z;cases z') (λb z=>absurd rfl z) λz=>absurd rfl z
 |none=>
  refine core (λb=>if b=a then some (.frz { cls:=.type "list",data:=.seq vs.toArray } (.lst (ns.map V.int))) else none) (λb=>?_) (.inl (.inr ⟨{ cls:=.type "list",data:=.seq vs.toArray },if_pos rfl⟩)) (λb u z=>?_) (λb z=>?_) λ_=>hk
  ·by_cases hb:b=a
   ·exact .inr ⟨_,_,if_pos hb⟩
   ·exact .inl (if_neg hb)
  ·by_cases hb:b=a
   ·have z':=(if_pos hb).symm.trans z;cases z';subst hb;exact⟨ha,by rw[AAG];exact hl,vs,_,rv,ha⟩
   ·have z':=(if_neg hb).symm.trans z;cases z'
  ·by_cases hb:b=a
   ·exact hb
   ·exact absurd (if_neg hb) z
theorem CW{l:PySem.W.OpenLaw}{n k:Nat}{q:Program}{loose:List Str}{XP:(Str->Option Value)->Heap->Prop}{YP:World->Heap->Prop}{d:DefRec}{K:Params->PySem.W.Frag}{CX:World->CXT}{sp:World->Sp}{x:Str}
  (hn:l.most=some n) (hn2:n<=sizeLine) (hdf:d.params.defaults=[]) (hr:Room k callerA)
  (hY:∀(w:World) (h:Heap),YP w h->(K w.params).In h)
  (F:∀(w:World) (mg:Str->Option Value) (fa:Addr) (h:Heap),(K w.params).In h->h.Ns mainGlobals mg->mg d.name=some (.ref fa)->
   ∃fd:FuncData,(∀(s:Shared) (u:Value),BindsTo s fd ⟨[u],[]⟩ [(x,u)]) /\
    ∀base:Heap,(K w.params).In base->base.Ns mainGlobals mg->FnOk l.prog w (K w.params) mg base (CX w) k fa fd [x] (sp w))
  (hsp:∀(w:World) (H:Hp) (a:Addr) (ns:List Int),ns.length<=n->WU H->SqL (K w.params) H a (ns.map V.int)->sp w [.ref a] H (λv _=>v=.bl true) λ_ _ _=>False)
  (hCX:∀(w:World) (H:Hp) (s:Shared) (e:Value) (s':Shared),CX w [] H s (λ_ _ _=>False) e s'->False) :
  PySem.W.WalkO q loose XP YP l.row.toRowW d [] (λf vs=>PySem.call f vs):=by
 refine Att.M7 hn hdf λw s₀ s₁ mg mb fa o pm cd doc a vs ns G Y ho hd hcd hmg hobj hints hlen hg=>?_;have KX:=hY w _ Y;obtain⟨fd,hb,hF⟩:=F w mg fa _ KX G.T.g hmg;exact Tg KX G.T.g G.T.b G.T.builtins G.T.nolimit hg hobj hints (AAs hlen hn2) hr hF hb (λH hO hS=>hsp w H a ns hlen hO hS) λH e s'=>hCX w H s₁ e s'
noncomputable def D3(s:Stmt):Arguments:=match s with
 | .FunctionDef _ a _ _ _ _ _ _ _ _=>a
 |_=>{ posonlyargs:=[],args:=[],vararg:=none,kwonlyargs:=[],kw_defaults:=[],kwarg:=none,defaults:=[] }
noncomputable def Bv(s:Stmt):List Stmt:=match s with
 | .FunctionDef _ _ b _ _ _ _ _ _ _=>b
 |_=>[]
noncomputable def AT(s:Stmt):Scope:=match s with
 | .FunctionDef _ _ _ _ _ _ sc _ _ _=>sc
 |_=>{ kind:=.function,names:=[],isGenerator:=false,isCoroutine:=false }
noncomputable abbrev CX0:CXT:=λ_ _ _ _ _ _=>False
noncomputable abbrev E0:XK:=λ_ _ _=>False
theorem TK:G6 CX0 X E0:=λ_ _ _ _ _ _ _ h=>h.elim
structure Fun(K:PySem.W.Frag)(x qual:Str)(st:Stmt)(f:Addr)(fd:FuncData):Prop where
 ex:∃(oc:Value) (od:Option Addr) (kV doc pm:Value) (an:Option Addr) (cdv ct:Value) (osl:Array (Option Value)),
  fd=PySem.W.fnOf x qual (D3 st) (Bv st) (AT st) .none kV doc pm an cdv ct/\K.lookup f=some ⟨oc,od,.func fd,osl⟩/\PySem.W.codeIn K cdv qual=true
 kp:PySem.W.keepIn K (.ref f)=true
section
variable{P:Program}{w:World}{K:PySem.W.Frag}{mg:Str->Option Value}{base:Heap}
theorem Fun.ok{x qual:Str}{st:Stmt}{f:Addr}{fd:FuncData}{N ps:List Str}{k:Nat}{sp:Sp}(F:Fun K x qual st f fd)(S:Ae N ps (AT st))(len:∀vs H Q E,sp vs H Q E->vs.length=ps.length)
  (hbody:∀(cdv:Value) (A:Around) (outer:List Env) (s:Shared) (H:Hp) (vs:List V) (Q:VK) (E:XK),Room k (A.deeper (envOfC qual (AT st) s.heap.objs.size f cdv))->sp vs H Q E->
   ∃t,PSs (Iv CX0 P w K mg base N qual (AT st) f cdv A outer s H E).nox (Bv st) t/\t { nx:=λ_ H'=>Q .non H',rt:=Q } (start N vs) H):FnOk P w K mg base CX0 (k+1) f fd ps sp:=by
 obtain⟨oc,od,kV,doc,pm,an,cdv,ct,osl,rfl,lk,hcd⟩:=F.ex;refine aH lk hcd S len λA outer s H vs Q E hr hsp=>?_;obtain⟨t,h,q⟩:=hbody cdv A outer s H vs Q E hr hsp;exact⟨t,h.nox,q⟩
theorem Fun.binds{x qual:Str}{st:Stmt}{f:Addr}{fd:FuncData}{ps:List Str}(F:Fun K x qual st f fd)
  (h:∀(kV doc pm:Value) (an:Option Addr) (cdv ct:Value) (us:List Value),us.length=ps.length->bindArgs (PySem.W.fnOf x qual (D3 st) (Bv st) (AT st) .none kV doc pm an cdv ct) ⟨us,[]⟩=pure (ps.zip us)):Binds K fd ps []:=by
 obtain⟨oc,od,kV,doc,pm,an,cdv,ct,osl,rfl,lk,hcd⟩:=F.ex;exact .all (h kV doc pm an cdv ct)
theorem N4{x qual:Str}{st:Stmt}{f:Addr}{oc:Value}{od an:Option Addr}{osl:Array (Option Value)}{kV doc pm cdv ct:Value}(l:K.lookup f=some ⟨oc,od,.func (PySem.W.fnOf x qual (D3 st) (Bv st) (AT st) .none kV doc pm an cdv ct),osl⟩)
  (c:PySem.W.codeIn K cdv qual=true) (k:PySem.W.keepIn K (.ref f)=true):Fun K x qual st f (PySem.W.fnOf x qual (D3 st) (Bv st) (AT st) .none kV doc pm an cdv ct):=⟨⟨oc,od,kV,doc,pm,an,cdv,ct,osl,rfl,l,c⟩,k⟩
end
theorem W6(hr:Room k A):A.units+1<cLine:=AAr (Nat.add_le_add_left (by decide:1<=64) _) hr.units
theorem Gc(h:n<=1000):n<sizeLine:=AAr h (by decide)
section
variable{κ:Type}[DecidableEq κ]
end
noncomputable def DR(env:Env):List (Str×NameKind)->List (Str×Addr)->List (Str×Addr)
 |[],cs=>cs
 |(n,k)::r,cs=>DR env r (if k==.free then (match env.cells.lookup n with|some c=>(n,c)::cs|none=>cs) else cs)
theorem Cm:∀(l:List (Str×NameKind)) (cs:List (Str×Addr)),(∀x∈l,x.2=.free->∃c,env.cells.lookup x.1=some c)->
  (forIn l cs λ(x:Str×NameKind) (r:List (Str×Addr))=>(if (x.2==NameKind.free)=true then (do let a ←cellOf env x.1;pure (ForInStep.yield ((x.1,a)::r))) else pure (ForInStep.yield r):Sem (ForInStep (List (Str×Addr)))))=pure (DR env l cs)
 |[],cs,_=>by rw[List.forIn_nil];rfl
 |(n,k)::r,cs,h=>by
  have hr:∀x∈r,x.2=.free->∃c,env.cells.lookup x.1=some c:=λx hx=>h x (AAR _ hx);rw[List.forIn_cons];by_cases hk:k=.free
  ·subst hk;obtain⟨c,hc⟩:=h (n,.free) AAQ rfl;have e:cellOf env n=pure c:=by unfold cellOf;rw[hc]
   dsimp only;rw[if_pos (by decide),e,pure_bind,pure_bind];dsimp only;rw[Cm r _ hr];show _=pure (DR env r (if (NameKind.free==NameKind.free)=true then (match env.cells.lookup n with|some c=>(n,c)::cs|none=>cs) else cs));rw[if_pos (by decide),hc]
  ·have hb:¬(k==NameKind.free)=true:=by simpa using hk
   dsimp only;rw[if_neg hb,pure_bind];dsimp only;rw[Cm r _ hr];show _=pure (DR env r (if (k==NameKind.free)=true then (match env.cells.lookup n with|some c=>(n,c)::cs|none=>cs) else cs));rw[if_neg hb]
theorem CU(h:∀x∈scope.names,x.2=.free->∃c,env.cells.lookup x.1=some c):closureFor scope env=pure (DR env scope.names []):=by
 have e:=Cm (env:=env) scope.names [] h;unfold closureFor;dsimp only;rw[←bind_pure (pure (DR env scope.names [])),←e]
theorem Dg:∀(l:List (Str×NameKind)) (cs:List (Str×Addr)),(∀x c,cs.lookup x=some c->env.cells.lookup x=some c)->∀x c,(DR env l cs).lookup x=some c->env.cells.lookup x=some c
 |[],cs,h=>h
 |(n,k)::r,cs,h=>by
  refine Dg r _ ?_;intro x c;by_cases hk:(k==NameKind.free)=true
  ·rw[if_pos hk];cases hl:env.cells.lookup n with
   |none=>exact h x c
   |some d=>
    intro q;by_cases hx:x=n
    ·subst hx;rw[List.lookup_cons_self] at q;rw[hl];exact q
    ·have hb:(x==n)=false:=AAf.mpr hx;simp only[List.lookup_cons,hb] at q;exact h x c q
  ·rw[if_neg hk];exact h x c
theorem Iy:∀(l:List (Str×NameKind)) (cs:List (Str×Addr)) (x:Str),(cs.lookup x).isSome=true->((DR env l cs).lookup x).isSome=true
 |[],cs,x,h=>h
 |(n,k)::r,cs,x,h=>by
  refine Iy r _ x ?_;by_cases hk:(k==NameKind.free)=true
  ·rw[if_pos hk];cases hl:env.cells.lookup n with
   |none=>exact h
   |some d=>
    by_cases hx:(x==n)=true
    ·simp only[List.lookup_cons,hx,Option.isSome_some]
    ·have hb:(x==n)=false:=by simpa using hx
     simp only[List.lookup_cons,hb];exact h
  ·rw[if_neg hk];exact h
theorem Mz:∀(l:List (Str×NameKind)) (cs:List (Str×Addr)) (x:Str) (c:Addr),(x,NameKind.free)∈l->env.cells.lookup x=some c->((DR env l cs).lookup x).isSome=true
 |[],cs,x,c,h,_=>by simp at h
 |(n,k)::r,cs,x,c,h,hc=>by
  rcases AAJ.mp h with e|e
  ·obtain⟨rfl,rfl⟩:=Prod.mk.inj e;refine Iy r _ _ ?_;rw[if_pos (by decide),hc];simp only[List.lookup_cons_self,Option.isSome_some]
  ·exact Mz r _ x c e hc
theorem KL(h:(x,NameKind.free)∈l)(hc:env.cells.lookup x=some c):(DR env l []).lookup x=some c:=by
 obtain⟨d,hd⟩:=Option.isSome_iff_exists.mp (Mz l [] x c h hc);have:=Dg l [] (λ_ _ z=>by simp at z) x d hd;rw[hc] at this;cases this;exact hd
noncomputable def B9:List (Str×NameKind)->List Str
 |[]=>[]
 |(n,.free)::r=>n::B9 r
 |_::r=>B9 r
theorem Ff:∀{l:List (Str×NameKind)},x∈B9 l->(x,NameKind.free)∈l
 |[],h=>by simp[B9] at h
 |(n,k)::r,h=>by
  cases k<;>first
   |(rcases AAJ.mp (show x∈n::B9 r from h) with e|e;{subst e;exact AAQ};{exact AAR _ (Ff e)})
   |exact AAR _ (Ff (show x∈B9 r from h))
theorem KA:∀{l:List (Str×NameKind)},(x,NameKind.free)∈l->x∈B9 l
 |[],h=>by simp at h
 |(n,k)::r,h=>by
  rcases AAJ.mp h with e|e
  ·cases e;exact AAQ
  ·have ih:=KA e;cases k<;>first
    |exact AAR _ ih
    |exact ih
theorem Ej(f:Str×NameKind->Str×NameKind)(hf:∀p,f p=p∨p.2=.free/\f p=(p.1,.cell)):∀(l:List (Str×NameKind)) (k:NameKind),(l.map f).lookup x=some k->l.lookup x=some k∨l.lookup x=some .free/\k=.cell
 |[],_,h=>nomatch h
 |(y,j)::l,k,h=>by
  have BG:=Ej (x:=x) f hf l k;rw[AAX] at h;rcases hf (y,j) with e|⟨ej,e⟩<;>rw[e] at h<;>cases he:x==y<;>simp only[List.lookup_cons,he] at h ⊢
  ·exact BG h
  ·exact .inl h
  ·exact BG h
  ·cases h;cases (show j=NameKind.free from ej);exact .inr ⟨rfl,rfl⟩
theorem C3(h:(relabel scope env).names.lookup x=some k):scope.names.lookup x=some k∨scope.names.lookup x=some .free/\k=.cell:=by
 unfold relabel at h;refine Ej _ (λp=>?_) _ _ h;obtain⟨n,j⟩:=p;dsimp only;split
 ·rename_i hc;refine .inr ⟨?_,rfl⟩;simp only[Bool.and_eq_true,beq_iff_eq] at hc;exact hc.1.1
 ·exact .inl rfl
noncomputable def Jt(ix:List Nat)(σ:St):St:=ix.map λj=>(σ[j]?).getD none
noncomputable def cxB(X:Cx)(scope:Scope)(tgs:List Str)(fp:List Addr)(C:Addr)(s:Shared)(H:Hp):Cx:=
 { X with N:=tgs++B9 scope.names,s₀:=s,H₀:=H,env:=compEnvC scope (DR X.env scope.names []) C X.env,outer:=X.stack,ex:=fp,fn:=λ_=>false,pn:=[],xe:=λ_ _=>False }
noncomputable def Yv{α:Type}(P:α->Prop):List α->Prop
 |[]=>True
 |x::r=>P x/\Yv P r
theorem JE:∀{l:List α},Yv P l->∀x∈l,P x
 |[],_,_,h=>by simp at h
 |_::_,h,x,hx=>by
  rcases AAJ.mp hx with e|e
  ·subst e;exact h.1
  ·exact JE h.2 x e
structure BScope(X:Cx)(scope:Scope)(tgs:List Str)(ix:List Nat):Prop where
 kind:scope.kind=.function
 nocell:∀y∈scope.names,y.2≠.cell
 loc:∀y∈scope.names,y.2=.local->scope.names.lookup y.1=some .local
 fre:Yv (λx=>X.env.kindOf x=some .cell∨X.env.kindOf x=some .free) (B9 scope.names)
 ixs:(B9 scope.names).map some=ix.map λj=>X.N[j]?
 ndl:∀x∈B9 scope.names,scope.names.lookup x=some .free
section
variable{X:Cx}{scope:Scope}{tgs:List Str}{ix:List Nat}
theorem BScope.cells(S:BScope X scope tgs ix)(ok:X.Ok):∀x∈scope.names,x.2=.free->∃c,X.env.cells.lookup x.1=some c:=λx hx hk=>by
 obtain⟨n,k⟩:=x;subst hk;exact ok.has n (JE S.fre n (KA hx))
theorem Inv.cellLt(I:Inv X pins σ H s)(e:X.env.cells.lookup x=some c):c<s.heap.objs.size:=by
 obtain⟨v,q⟩:=I.cell x c e;exact q.lt
theorem Inv.track(I:Inv X pins σ H s)(f:EQ X pins H D)(new:ObjOk X.prog X.w (upd H D o) s.heap D o):Inv X pins σ (upd H D o) s:=by
 obtain⟨f0,f1,f2,f3,f4,f5⟩:=f;have nD:∀b u,H b=some u->b≠D:=λb u e z=>by rw[z,f0] at e;cases e
 have:=I.step (h':=s.heap) (H':=upd H D o) (g':=s.gens) (t':=s.toks) (d':=s.drawn) (ch:=[D]) (λb hb=>?_) (λb u _ _ _ e _=>e) (λb u _ _ _ e _=>⟨u.slots,e⟩) (λb u hb e n=>?_) (λb u _ e=>⟨u,e⟩)
  (λb xs e=>?_) (λb u v e=>?_) (λb ps e=>?_) (λm hm=>hm) (λb u e=>?_) I.bare
 ·exact this
 ·have e:b=D:=by simpa using hb
  subst e;exact⟨f3,f1,f4,f5⟩
 ·rw[A5 (λz=>hb (by simp[z]))];exact n
 ·rw[A5 (nD b _ e)];exact e
 ·rw[A5 (nD b _ e)];exact e
 ·exact⟨#[],by rw[A5 (nD b _ e),e];simp⟩
 ·by_cases hb:b=D
  ·subst hb;rw[BJ] at e;cases e;exact new
  ·rw[A5 hb] at e;exact(I.hok b u e).stay (λ_ _ _ q=>q) (λc q=>by rw[A5 (nD c _ q)];exact q) λc xs q=>by rw[A5 (nD c _ q)];exact q
theorem N9(S:BScope X scope tgs ix)(I:Inv X pins σ H s)(hf:∀b∈fp,EQ X pins H b)(hfo:∀b∈fp,b<s.heap.objs.size)(hC:s.heap.objs.size<=C):
  (cxB X scope tgs fp C s H).Ok:=by
 have sub:∀x c,(DR X.env scope.names []).lookup x=some c->X.env.cells.lookup x=some c:=Dg scope.names [] (λ_ _ z=>by simp at z);refine⟨I.ok.mod,S.kind,I.ok.glob,I.ok.blt,hC,λx y c h1 h2=>I.ok.inj x y c (sub x c h1) (sub y c h2),λx hx=>?_,λx c h=>absurd h (by simp[cxB]),I.ok.hd,I.ok.frames,.inl rfl,λb hb=>⟨?_,λx c e=>?_⟩,λb o e=>I.bs b o e,
  AAs I.ok.bsz I.sz,λb o e hb=>?_,λb hb hz=>?_,I.stack,I.stkFree⟩
 ·have hx':(relabel scope X.env).names.lookup x=some .cell∨(relabel scope X.env).names.lookup x=some .free:=hx;have hm:(x,NameKind.free)∈scope.names:=by
   rcases hx' with h|h
   ·rcases C3 h with q|q
    ·exact absurd rfl (S.nocell _ (PySem.mem_of_lookup q))
    ·exact PySem.mem_of_lookup q.1
   ·rcases C3 h with q|q
    ·exact PySem.mem_of_lookup q
    ·exact absurd q.2 (by decide)
  obtain⟨c,hc⟩:=S.cells I.ok _ hm rfl;exact⟨c,KL hm hc⟩
 ·exact λz=>absurd (hfo b hb) (by rw[z];exact Nat.not_lt.mpr hC)
 ·exact(hf b hb).2.2.2.2.1 x c (sub x c e)
 ·obtain⟨f0,f1,f2,f3,f4,f5⟩:=hf b hb;rcases f3 with z|z
  ·exact I.ok.noex b o e z
  ·exact absurd (Heap.lt_size (I.ok.bs b o e).1) (Nat.not_lt.mpr z)
 ·obtain⟨f0,f1,f2,f3,f4,f5⟩:=hf b hb;rcases AAJ.mp (I.stkSub b hz) with z|z
  ·exact f1 z
  ·exact f2 z
end
section
variable{X:Cx}{scope:Scope}{tgs:List Str}{ix:List Nat}
noncomputable abbrev B7(tgs:List Str)(ix:List Nat)(σ:St):St:=List.replicate tgs.length none++Jt ix σ
theorem Hq(h:(B7 tgs ix σ)[k]?=some (some v)):tgs.length<=k/\∃j,ix[k-tgs.length]?=some j/\σ[j]?=some (some v):=by
 have hk:tgs.length<=k:=by
  rcases Nat.lt_or_ge k tgs.length with z|z
  ·rw[AAT (by simpa using z),List.getElem?_replicate,if_pos z] at h;cases h
  ·exact z
 refine⟨hk,?_⟩;rw[AAS (by simpa using hk),AAm] at h;unfold Jt at h;rw[AAW] at h;cases e:ix[k-tgs.length]? with
 |none=>rw[e] at h;cases h
 |some j=>
  rw[e] at h;refine⟨j,rfl,?_⟩;have h':(σ[j]?).getD none=some v:=Option.some.inj h;cases q:σ[j]? with
  |none=>rw[q] at h';cases h'
  |some o=>
   rw[q] at h';have h'':o=some v:=h';rw[h'']
theorem IZ(S:BScope X scope tgs ix)(I:Inv X pins σ H s)(hf:∀b∈fp,EQ X pins H b)(hfo:∀b∈fp,b<s.heap.objs.size)
  (hC:s.heap.objs.size<=C) (hD:s.heap.objs.size<=D) (hDC:D≠C) {m:Str->Option Value} (hn:s4.heap.Ns C m) (hk:∀b u,s.heap.get? b=some u->s4.heap.get? b=some u) (hos:s4.os=s.os) (hg:s4.gens=s.gens)
  (hDo:s4.heap.get? D=some o) (hcell:∀v,o.data≠.cell v):Inv (cxB X scope tgs fp C s H) [(D,o)] (B7 tgs ix σ) H s4:=by
 have ok:=N9 (tgs:=tgs) (ix:=ix) (C:=C) S I hf hfo hC;have sub:∀x c,(DR X.env scope.names []).lookup x=some c->X.env.cells.lookup x=some c:=Dg scope.names [] (λ_ _ z=>by simp at z);refine⟨ok,hos,by rw[hg];exact I.bare,Un.kept hk,⟨m,hn,λk x v h1 h2 h3=>?_⟩,λx c e=>?_,I.hok.fresh hC,λx c e=>I.freeC x c (sub x c e),λp hp=>?_,I.hok.kept hk,?_⟩
 ·obtain⟨hkl,j,hj,hσ⟩:=Hq h2;have h1':(B9 scope.names)[k-tgs.length]?=some x:=by
   have:(tgs++B9 scope.names)[k]?=some x:=h1
   rwa [AAS hkl] at this
  have hx:x∈B9 scope.names:=AAV h1';have hXN:X.N[j]?=some x:=by
   have e:=congrArg (λl=>l[k-tgs.length]?) S.ixs;simp only[AAW,h1',hj,Option.map_some] at e;exact(Option.some.inj e).symm
  have kx:=JE S.fre x hx;obtain⟨m0,hn0,hl⟩:=I.loc;obtain⟨u,r,l⟩:=hl j x v hXN hσ (by rcases kx with z|z;exact .inr (.inl z);exact .inr (.inr z));refine⟨u,r,?_⟩;rcases l with ⟨z,_⟩|⟨_,c,hc,q⟩
  ·rcases kx with y|y<;>rw[z] at y<;>cases y
  ·refine .inr ⟨?_,c,KL (Ff hx) hc,?_⟩
   ·have h3':(relabel scope X.env).names.lookup x=some .local∨(relabel scope X.env).names.lookup x=some .cell∨(relabel scope X.env).names.lookup x=some .free:=h3;rcases h3' with z|z|z
    ·exfalso;rcases C3 z with w|w
     ·have lk:scope.names.lookup x=some .local:=w;have:=S.ndl x hx;rw[lk] at this;cases this
     ·exact absurd w.2 (by decide)
    ·exact .inl z
    ·exact .inr z
   ·obtain⟨oc,hoc,hd⟩:=q;exact⟨oc,hk c oc hoc,hd⟩
 ·obtain⟨v,oc,hoc,hd⟩:=I.cell x c (sub x c e);exact⟨v,oc,hk c oc hoc,hd⟩
 ·have e:p=(D,o):=by simpa[cxB] using hp
  subst e;refine⟨hDo,I.hok.fresh hD,hDC,λhz=>?_,hcell⟩;have hz':D∈frs X.stack:=hz;rcases AAJ.mp (I.stkSub D hz') with z|z
  ·exact absurd I.lt (by rw[←z];exact Nat.not_lt.mpr hD)
  ·exact I.nofs hD z
 ·show (List.replicate tgs.length none++Jt ix σ).length=(tgs++B9 scope.names).length;have e:=congrArg List.length S.ixs;simp only[AAG] at e;rw[AAH,AAH,AAm,e];unfold Jt;rw[AAG]
def LN(X:Cx)(ifs:List Expr)(tc:TT):Prop:=
 ∀(pins:List (Addr×Obj)) (s:Shared) (σ:St) (H:Hp) (Q:Bool->Hp->Prop),Inv X pins σ H s->tc σ H Q->
  wpAny (model X.prog X.w) X.A (forIn ifs true λc r=>if r=true then do let ok ←isTrue c X.env (eval c X.env);pure (ForInStep.yield ok) else pure (ForInStep.yield r)) (TP X pins σ Q) X.xe s
noncomputable def ZO:TT:=λ_ H Q=>Q true H
theorem Sy:LN X [] ZO:=λpins s σ H Q I h=>wpAny_tests_nil ⟨H,I,h⟩
theorem Sx(h:PT X c tc):LN X [c] tc:=λpins s σ H Q I hw=>wpAny_tests_one (h pins s σ H Q I hw)
def GK(n:Nat)(g:TG):Prop:=∀x σ H Q,g x σ H Q->g x σ H λσ2 H2=>Q σ2 H2/\σ2.length=σ.length/\σ2.drop n=σ.drop n
theorem Pc(h:i<n):GK n (EH i):=λx σ H Q q=>⟨q,by simp,by rw[List.drop_set_of_lt h]⟩
def aa(tgs:List Str)(ix:List Nat)(g:TG)(tc:TT)(te:TE)(σ:St)(Q:VK)(J:It)(H1:Hp):Prop:=∃W:Nat->Nat->List V->Hp->Prop,(∃m,W 0 m [] H1)/\∀i m ys H,W i m ys H->
 (J.stop i H/\ys.length<=sizeLine/\∀p,H p=none->Q (.ref p) (upd H p (.lst ys))) ∨
 (J.go i H/\ys.length<sizeLine/\∃N:List V->Hp->Prop,(∀ys' H',N ys' H'->∃m',m'<m/\W (i+1) m' ys' H')/\∀x H',J.yld i H x H'->g x (B7 tgs ix σ) H' λσ2 H2=>tc σ2 H2 λb H3=>
  if b=true then te σ2 H3 λv H4=>N (ys++[v]) H4 else N ys H3)
noncomputable def Le(tgs:List Str)(ix:List Nat)(wi:TI)(g:TG)(tc:TT)(te:TE):TE:=λσ H Q=>wi σ H λJ H1=>aa tgs ix g tc te σ Q J H1
theorem G3(h:wpAny M A t Q (λ_ _=>False) s)(hQ:∀a s,Q a s->Q' a s):wpAny M A t Q' E s:=AAj h hQ λ_ _ x=>x.elim
theorem QY(hu:u=pure ())(h:wpAny M A u P E s)(k:∀s',P () s'->wpAny M A t Q E s'):wpAny M A t Q E s:=by
 subst hu;have z:wpAny M A ((pure ():Sem Unit) >>= λ_=>t) Q E s:=AAA (AAj h (λ_ s' p=>k s' p) λ_ _ x=>x);exact z
end
section
variable{X:Cx}{scope:Scope}{tgs:List Str}{ix:List Nat}
noncomputable abbrev EO(its:List Value)(k:Nat):Obj:={ cls:=.type "list",data:=.seq its.toArray k }
theorem OZ(I:Inv (cxB X scope tgs fp C s0 H0) pins σ6 H s)(l6:σ6.length=(B7 tgs ix σ).length)
  (d6:σ6.drop tgs.length=(B7 tgs ix σ).drop tgs.length):Inv (cxB X scope tgs fp C s0 H0) pins (B7 tgs ix σ) H s:=by
 refine I.weak l6.symm λk v e=>?_;obtain⟨hk,_⟩:=Hq e;have e1:σ6[k]?=(σ6.drop tgs.length)[k-tgs.length]?:=by rw[List.getElem?_drop];congr 1;omega
 have e2:(B7 tgs ix σ)[k]?=((B7 tgs ix σ).drop tgs.length)[k-tgs.length]?:=by rw[List.getElem?_drop];congr 1;omega
 rw[e1,d6,←e2];exact e
theorem Ix{elt tg iter:Expr}{ifs:List Expr}{pos:Pos}{g:TG}{tc:TT}{te:TE}{pins:List (Addr×Obj)}{fp:List Addr}{tn:Nat->Heap->Prop}{J:It}{Q:VK}
  (S:BScope X scope tgs ix) (ht:∀o v,letOwnedTupleGo tg o v=pure ()) (hc:X.calm=true) (hg:∀fp C s H,PG (cxB X scope tgs fp C s H) tg g) (hgk:GK tgs.length g) (hi:∀fp C s H,LN (cxB X scope tgs fp C s H) ifs tc) (he:∀fp C s H,PE (cxB X scope tgs fp C s H) elt te)
  (I2:Inv X pins σ H2 s2) (T:LM X.prog X.w X.K tg J fp it tn) (t0:tn 0 s2.heap) (hf:∀b∈fp,EQ X pins H2 b)
  (W:Nat->Nat->List V->Hp->Prop) (w0:∃m,W 0 m [] H2)
  (turn:∀i m ys H,W i m ys H->(J.stop i H/\ys.length<=sizeLine/\∀p,H p=none->Q (.ref p) (upd H p (.lst ys))) ∨
   (J.go i H/\ys.length<sizeLine/\∃N:List V->Hp->Prop,(∀ys' H',N ys' H'->∃m',m'<m/\W (i+1) m' ys' H')/\∀x H',J.yld i H x H'->g x (B7 tgs ix σ) H' λσ2 H2=>tc σ2 H2 λb H3=>
    if b=true then te σ2 H3 λv H4=>N (ys++[v]) H4 else N ys H3))
  {RR:Value->Addr->Result->Shared->Prop}
  (fin:∀(D C:Addr) (s':Shared) (H':Hp) (m:Str->Option Value),Inv X pins σ H' s'->Q (.ref D) H'->s'.heap.Ns C m->EQ X pins H' C->RR (.ref D) C (.ok .next) s') :
  wpAny (model X.prog X.w) X.A (newList []) (λacc s₃=>wpAny (model X.prog X.w) X.A (newFunctionEnv scope X.env.globals (DR X.env scope.names []) [] X.env.qual none .none (some X.env)) (λcenv s₄=>
   codeAny (model X.prog X.w) X.A (.compStart (.ListComp elt [⟨tg,iter,ifs,0⟩] scope pos) 0 (.ref it) acc { cenv with scope:=relabel scope X.env }) (RR acc cenv.locals) s₄) X.xe s₃) X.xe s2:=by
 refine AAq (wpAny_newFunctionEnv S.nocell (by intro y hy;simp at hy) (λh₁ hns₁ hsb₁=>?_) S.kind);dsimp only at hns₁ hsb₁ ⊢;generalize hH2:s2.heap.push { cls:=.type "list",dict:=none,data:=.seq ([]:List Value).toArray }=G2 at hns₁ hsb₁ ⊢;have hC:G2.objs.size=s2.heap.objs.size+1:=by rw[←hH2,Heap.size_push]
 have hCle:s2.heap.objs.size<=G2.objs.size:=by rw[hC];exact Nat.le_succ _
 have hDC:s2.heap.objs.size≠G2.objs.size:=by rw[hC];exact AAe (Nat.lt_succ_self _)
 have below:∀b,b<s2.heap.objs.size->b≠G2.objs.size/\b≠s2.heap.objs.size:=λb hb=>⟨by rw[hC];exact AAe (AAh hb),AAe hb⟩;have old:∀b o,s2.heap.get? b=some o->h₁.get? b=some o:=λb o e=>hsb₁.extBut b o (below b (Heap.lt_size e)).1 (AAC _ (hH2 ▸ AAC _ e));have hacc:h₁.get? s2.heap.objs.size=some (EO [] 0):=hsb₁.extBut _ _ hDC (AAC _ (hH2 ▸ AAD _ rfl));have hfo:∀b∈fp,b<s2.heap.objs.size:=λb hb=>let ⟨o,e,_⟩:=T.obj 0 _ t0 b hb;Heap.lt_size e
 have ok:=N9 (tgs:=tgs) (ix:=ix) (C:=G2.objs.size) S I2 hf hfo hCle;have sub:∀x c,(DR X.env scope.names []).lookup x=some c->X.env.cells.lookup x=some c:=Dg scope.names [] (λ_ _ z=>by simp at z);have nDfs:s2.heap.objs.size∉frs X.stack:=λhz=>by
  rcases AAJ.mp (I2.stkSub _ hz) with z|z
  ·exact absurd I2.lt (by rw[←z];exact AA1 _)
  ·exact I2.nofs (AAF _) z
 have nDcell:∀x c,(DR X.env scope.names []).lookup x=some c->c≠s2.heap.objs.size:=λx c e=>AAe (I2.cellLt (sub x c e));have ncell:∀(its:List Value) (k:Nat) (v:Option Value),(EO its k).data≠.cell v:=λits k v z=>by cases z
 have stat:∀{Hx:Hp} {o:Obj},(∀b∈fp,Hx b=none)->∀b∈fp,EQ (cxB X scope tgs fp G2.objs.size s2 H2) [(s2.heap.objs.size,o)] Hx b:=λ{Hx o} hn b hb=>
  ⟨hn b hb,(ok.exf b hb).1,ok.exfs b hb,.inl hb,(ok.exf b hb).2,λp hp z=>by
   have e:p=(s2.heap.objs.size,o):=by simpa[cxB] using hp
   subst e;exact absurd (hfo b hb) (by rw[←z];exact AA1 _)⟩
 have loop:∀s₃:Shared,s₃={ s2 with heap:=h₁,toks:=s2.toks+([]:List (Str×Value)).length }->
   codeAny (model X.prog X.w) X.A (.compLoop (.ListComp elt [⟨tg,iter,ifs,0⟩] scope pos) 0 (.ref it) (.ref s2.heap.objs.size) (compEnvC scope (DR X.env scope.names []) G2.objs.size X.env)) (RR (.ref s2.heap.objs.size) G2.objs.size) s₃:=by
  rintro s₃ rfl;obtain⟨m0,w0⟩:=w0;refine codeAny_compLoop_tests (λn s=>∃i ys its k H,Inv (cxB X scope tgs fp G2.objs.size s2 H2) [(s2.heap.objs.size,EO its k)] (B7 tgs ix σ) H s/\tn i s.heap/\(∀b∈fp,H b=none)/\Vals ys its/\W i n ys H) ?_ m0
   ⟨0,[],[],0,H2,IZ S I2 hf hfo hCle (AAF _) hDC hns₁ old rfl rfl hacc (ncell _ _),T.keep 0 _ _ t0 λb _ o e=>old b o e,λb hb=>(hf b hb).1,.nil,w0⟩ (ht _)
  rintro n s ⟨i,ys,its,k,H,I,st,fr,rv,w⟩;rcases turn i n ys H w with ⟨stop,hz,q⟩|⟨go,hz8,N,hN,step⟩
  ·refine thn (T.done (cxB X scope tgs fp G2.objs.size s2 H2) rfl rfl rfl hc i _ s _ H _ I (stat fr) st stop) λr s1 ⟨hr,I1⟩=>?_;subst hr;obtain⟨pe,pn,_⟩:=I1.pin (s2.heap.objs.size,EO its k) (AAb _ (by simp));have J0:Inv X pins σ H s1:=I2.call' I1.os I1.base I1.hok I1.bare λb hb=>⟨(hf b hb).2.2.2.1,(hf b hb).2.1,(hf b hb).2.2.2.2.1,(hf b hb).2.2.2.2.2⟩;have J1:Inv X pins σ (upd H s2.heap.objs.size (.lst ys)) s1:=J0.track (I2.fpOk (AAF _) pn) ⟨hz,its,k,rv,pe⟩;obtain⟨m,hn,_⟩:=I1.loc;exact fin _ _ s1 _ m J1 (q _ pn) hn (I2.fpOk hCle (by rw[A5 (Ne.symm hDC)];exact I1.free))
  ·refine thn (T.item (cxB X scope tgs fp G2.objs.size s2 H2) rfl rfl rfl hc i _ s _ H _ I (stat fr) st go) λr s1 ⟨u,hr,h1⟩=>?_;subst hr;refine QY (ht _ _) h1 λs5 ⟨x,H5,I5,r5,y5,st5,fr5⟩=>?_;have I5':=I5.pinned (stat fr5) (T.obj _ _ st5);refine G3 (hg fp G2.objs.size s2 H2 _ s5 _ H5 x u _ I5' r5 (hgk _ _ _ _ (step x H5 y5))) λ_ s6 ⟨σ6,H6,I6,q6,l6,d6⟩=>?_;refine G3 (hi fp G2.objs.size s2 H2 _ s6 σ6 H6 _ I6 q6) λokb s7 ⟨H7,I7,q7⟩=>?_;cases okb with
   |false=>
    rw[if_neg AAg] at q7 ⊢;obtain⟨m',hm,w7⟩:=hN _ _ q7;refine⟨m',hm,i+1,ys,its,k,H7,OZ I7.unpinned l6 d6,T.keep _ _ _ st5 λb hb o e=>(I7.pin (b,o) (AAb _ (AAb _ (BW hb e)))).1,λb hb=>?_,rv,w7⟩;obtain⟨o,e,_⟩:=T.obj _ _ st5 b hb;exact(I7.pin (b,o) (AAb _ (AAb _ (BW hb e)))).2.1
   |true=>
    rw[if_pos rfl] at q7 ⊢;refine G3 (he fp G2.objs.size s2 H2 _ s7 σ6 H7 _ I7 q7) λxv s8 ⟨v,H8,I8,rv8,q8⟩=>?_;obtain⟨m',hm,w8⟩:=hN _ _ q8;obtain⟨pe,pn,_⟩:=I8.pin (s2.heap.objs.size,EO its k) (AAb _ (AAc _ (by simp)));have hlen:=rv.length;refine call_meets PySem.F.slot_list_append ⟨_,pe,rfl⟩ PySem.F.entry_list_append (PySem.F.args_list_append_2 _ _) (PySem.list_append s2.heap.objs.size its.toArray k xv (by rw[List.size_toArray];omega)) ⟨pe,?_⟩;have hp:its.toArray.push xv=(its++[xv]).toArray:=by simp
    have q':∃k',(s8.heap.update s2.heap.objs.size (Obj.mapSeq (λa=>a.push xv))).get? s2.heap.objs.size=some (EO (its++[xv]) k'):=⟨_,by
     unfold EO;rw[←hp];exact PySem.IsL.update pe (λa=>a.push xv)⟩
    obtain⟨k',q'⟩:=q';have I9:Inv (cxB X scope tgs fp G2.objs.size s2 H2) [] σ6 H8 { s8 with heap:=s8.heap.update s2.heap.objs.size (Obj.mapSeq (λa=>a.push xv)) }:=
     (I8.pins_of (pins':=[]) (λp hp=>absurd hp (by simp))).turned (t':=s8.toks) (λb o hb e=>(Heap.get?_update_other s8.heap (Obj.mapSeq (λa=>a.push xv)) (Ne.symm hb)).trans e) pn hDC (.inr (AAF _)) nDcell (λp hp=>absurd hp (by simp[cxB]))
    have I10:Inv (cxB X scope tgs fp G2.objs.size s2 H2) [(s2.heap.objs.size,EO (its++[xv]) k')] σ6 H8 { s8 with heap:=s8.heap.update s2.heap.objs.size (Obj.mapSeq (λa=>a.push xv)) }:=
     I9.pins_of λp hp=>by
      have e:p=(s2.heap.objs.size,EO (its++[xv]) k'):=by simpa using hp
      subst e;exact⟨q',pn,hDC,nDfs,ncell _ _⟩
    refine⟨m',hm,i+1,ys++[v],its++[xv],k',H8,OZ I10 l6 d6,T.keep _ _ _ st5 λb hb o e=>?_,λb hb=>?_,rv.append (.cons rv8 .nil),w8⟩
    ·exact(Heap.get?_update_other s8.heap (Obj.mapSeq (λa=>a.push xv)) (Ne.symm (below b (hfo b hb)).2)).trans (I8.pin (b,o) (AAb _ (AAb _ (BW hb e)))).1
    ·obtain⟨o,e,_⟩:=T.obj _ _ st5 b hb;exact(I8.pin (b,o) (AAb _ (AAb _ (BW hb e)))).2.1
 exact codeAny_compStart_list (loop _ rfl) (T.self _ 0 _ _ _ (T.keep 0 _ _ t0 λb _ o e=>old b o e) (loop _ rfl))
theorem Vh{elt tg iter:Expr}{ifs:List Expr}{pos:Pos}{tc:TT}{te:TE}(S:BScope X scope tgs ix)(hc:X.calm=true)(hi:PI X tg iter wi)(hg:∀fp C s H,PG (cxB X scope tgs fp C s H) tg g)(hgk:GK tgs.length g)
  (hif:∀fp C s H,LN (cxB X scope tgs fp C s H) ifs tc) (he:∀fp C s H,PE (cxB X scope tgs fp C s H) elt te) (hs:∀x,foldedSetIterable iter X.env x=pure x:=by intro _;rfl) (ht:∀o v,letOwnedTupleGo tg o v=pure ():=by intro _ _;rfl) :
  PE X (.ListComp elt [⟨tg,iter,ifs,0⟩] scope pos) (Le tgs ix wi g tc te):=by
 intro pins s σ H Q I h;rw[eval_ListComp];refine wpAny_comprehension_free (use:=none) rfl hs (CU (S.cells I.ok)) S.kind S.loc ?_;show wpAny _ _ (eval iter X.env) _ _ s;refine thn (hi pins s σ H _ I h) λv s1 h1=>thn h1 λitv s2 h2=>?_;obtain⟨it,fp,tn,J,H2,e,I2,T,t0,f2,W,w0,turn⟩:=h2;subst e;refine Ix (RR:=λacc C=>compPost (model X.prog X.w) X.A X.xe none (EP X pins σ Q) acc C) S ht hc hg hgk hif he I2 T t0 f2 W w0 turn ?_;intro D C s' H' m J1 q hn fC;obtain⟨f0,f1,f2,f3,f4,f5⟩:=fC;exact⟨m,hn,λh' sb=>⟨.ref D,H',J1.turned (t':=s'.toks) (λb o hb e=>(sb.2 b hb).trans e) f0 f1 f3 f4 f5,rfl,q⟩⟩
theorem Nc(hN:X.N.Nodup)(hiN:X.N[i]?=some y)(hy:X.env.scope.names.lookup y=some .local)
  (S:BScope X scope tgs ix) (hc:X.calm=true) (hi:PI X tg iter wi) (hg:∀fp C s H,PG (cxB X scope tgs fp C s H) tg g) (hgk:GK tgs.length g)
  (hif:∀fp C s H,LN (cxB X scope tgs fp C s H) ifs tc) (he:∀fp C s H,PE (cxB X scope tgs fp C s H) elt te)
  (hsw:swapsWith (.ListComp elt [⟨tg,iter,ifs,0⟩] scope pos) (some (.Name y py)) spos.line X.env=pure true:=by rfl) (hs:∀x,foldedSetIterable iter X.env x=pure x:=by intro _;rfl) (ht:∀o v,letOwnedTupleGo tg o v=pure ():=by intro _ _;rfl) :
  PS X (.Assign [.Name y py] (.ListComp elt [⟨tg,iter,ifs,0⟩] scope pos) spos) (SC (Le tgs ix wi g tc te) (EH i)):=by
 intro pins s σ H D0 I h;rw[exec_Assign_Name_used _ _ _ _ hsw];refine AAA (wpAny_standAt (AAA ?_));show wpAny _ X.A (do let _ ←comprehension (.ListComp elt [⟨tg,iter,ifs,0⟩] scope pos) scope X.env _ (newList []) false (eval iter X.env) (some (assign (.Name y py) X.env))) _ _ s;refine AAA (AAj (wpAny_comprehension_free (use:=some (assign (.Name y py) X.env)) (Q:=λ_ s'=>SP X pins D0 .next s') rfl hs (CU (S.cells I.ok)) S.kind S.loc ?_) (λ_ s' hq=>AAB (AAB hq)) λ_ _ e=>e);refine thn (hi pins s σ H _ I h) λv s1 h1=>thn h1 λitv s2 h2=>?_;obtain⟨it,fp,tn,J,H2,e,I2,T,t0,f2,W,w0,turn⟩:=h2;subst e;refine Ix (Q:=λx H1=>EH i x σ H1 D0.nx) (RR:=λacc C=>compPost (model X.prog X.w) X.A X.xe (some (assign (.Name y py) X.env)) (λ_ s'=>SP X pins D0 .next s') acc C) S ht hc hg hgk hif he I2 T t0 f2 W w0 turn ?_;intro D C s' H' m J1 q hn fC;obtain⟨f0,f1,f2,f3,f4,f5⟩:=fC;show wpAny _ X.A (assign (.Name y py) X.env (.ref D)) _ _ _;refine wpAny_assign_Name (Gb (v:=.ref D) J1 hN hiN (.inl hy) rfl (λs'' I'' hsb=>?_) (.inr hy));obtain⟨a,sb,ha⟩:=hsb;have hCa:C≠a:=by
  rcases ha with z|z
  ·rw[z];exact f1
  ·exact Ne.symm (f4 y a z)
 exact⟨m,hn.sameBut sb hCa,λh' sb'=>⟨_,H',I''.turned (t':=s''.toks) (λb o hb e=>(sb'.2 b hb).trans e) f0 f1 f3 f4 f5,q⟩⟩
end
section
variable{X:Cx}
theorem M3:Bh X (.builtin "isinstance") (λxs H Q=>∃x T t b,xs=[x,.ty T]/\GS X.K H x t/\PySem.W.kitOne X.K t (.type T)=some b/\Q (.bl b) H):=by
 intro pins s σ H xs us Q I r h;obtain⟨x,T,t,b,rfl,ty,e,q⟩:=h;obtain⟨u,w',rfl,rx,ry⟩:=Rs r;cases ry;exact Qo I rx ty e λtk=>⟨.bl b,H,I.tok tk,rfl,q⟩
noncomputable def ai(K:PySem.W.Frag)(te ts:TE):TE:=λσ H Q=>te σ H λx H1=>ts σ H1 λy H2=>y=.int (-1)/\∃a xs,x=.ref a/\SqL K H2 a xs/\∀p,H2 p=none->Q (.ref p) (upd H2 p (.lst xs.reverse))
theorem X7{e st:Expr}(he:PE X e te)(hst:PE X st ts):PE X (.Subscript e (.Slice none none (some st) p2) pos) (ai X.K te ts):=by
 intro pins s σ H Q I h;refine Subscript_ (thn (he pins s σ H _ I h) λv s1 ⟨x,H1,I1,r1,q1⟩=>?_);refine wpAny_Slice ?_;rw[evalPart_none,evalPart_some];refine AAB (AAB (thn (hst pins s1 σ H1 _ I1 q1) λvk s3 ⟨y,H3,I3,pk,ey,a,xs,ex,hq,q⟩=>?_));subst ey ex;obtain⟨t,rfl⟩:=pk;cases r1;have I4:Inv X pins σ H3 { s3 with heap:=s3.heap.push { cls:=.type "slice",data:=.fields #[.none,.none,.int (-1) t] } }:=I3.kept (t':=s3.toks) λb ob q=>AAC _ q;obtain⟨its,r,ht,hz⟩:=I4.list hq;have hlen:=r.length;show wpAny (model X.prog X.w) X.A (subscriptTail e (.Slice none none (some st) p2) (.ref a) (.ref s3.heap.objs.size)) (EP X pins σ Q) X.xe { s3 with heap:=s3.heap.push { cls:=.type "slice",data:=.fields #[.none,.none,.int (-1) t] } };refine tail_any (ops:=[.ref a,.ref s3.heap.objs.size]) ht.isList.typeIs slot_list_getitem.lookup ?_ (by with_unfolding_all rfl);refine wpAny_getItem_list_slice ht.isList (Heap.IsSliceOf.new ..) .none .none (.int (-1) t) (by decide) ?_ (by rw[List.size_toArray]<;>omega);rw[PySem.W.krv_pick];refine⟨.ref _,_,I4.laid (t':=s3.toks) (o:=.lst xs.reverse) (λb ob q=>AAC _ q) (AAF _) ?_,rfl,q _ (I4.hok.fresh (AAF _))⟩;exact⟨by rw[List.length_reverse];exact hz,its.reverse,0,r.reverse,by
  have e:its.toArray.toList.reverse.toArray=its.reverse.toArray:=by simp
  rw[e];exact AAD _ rfl⟩
end
theorem EJ:entryFor table "dict.update.loop" = some Builtin.«dict.update.loop»:=entryFor_of_fast (by kernel_rfl)
theorem EB(args:Args):(Code.builtin "dict.update.loop" args).quiet=true:=Code.quiet_builtin args (by decide +kernel)
mutual
inductive DatV (K:PySem.W.Frag) (H:Hp):V->PyData->Prop
 |non:DatV K H .non .none
 |bl (b:Bool):DatV K H (.bl b) (.bool b)
 |int (i:Int):DatV K H (.int i) (.int i)
 |str (x:Str):DatV K H (.str x) (.str x)
 |tup {a:Addr} {xs:List V} {ds:List PyData}:SqT K H a xs->DatVs K H xs ds->DatV K H (.ref a) (.tuple ds)
 |lst {a:Addr} {xs:List V} {ds:List PyData}:SqL K H a xs->DatVs K H xs ds->DatV K H (.ref a) (.list ds)
inductive DatVs (K:PySem.W.Frag) (H:Hp):List V->List PyData->Prop
 |nil:DatVs K H [] []
 |cons {v:V} {d:PyData} {vs:List V} {ds:List PyData}:DatV K H v d->DatVs K H vs ds->DatVs K H (v::vs) (d::ds)
end
section
variable{X:Cx}{pins:List (Addr×Obj)}{σ:St}{H:Hp}{s:Shared}
mutual
theorem DatV.reads(I:Inv X pins σ H s):∀{v:V} {d:PyData},DatV X.K H v d->∀{u:Value},RelV v u->∃as,Reads s.heap u d as
 |_,_,.non,_,r=>by cases r;exact⟨[],.none⟩
 |_,_,.bl b,_,r=>by cases r;exact⟨[],.bool b⟩
 |_,_,.int i,_,r=>by obtain⟨t,rfl⟩:=r;exact⟨[],.int i t⟩
 |_,_,.str x,_,r=>by obtain⟨t,rfl⟩:=r;exact⟨[],.str x t⟩
 |_,_,.tup hq hs,_,r=>by
  cases r;obtain⟨its,rv,⟨o,e,c,n,d⟩,_⟩:=I.tuple hq;obtain⟨as,ra⟩:=DatVs.reads I hs rv;exact⟨_,.tuple e c d (by simpa using ra)⟩
 |_,_,.lst hq hs,_,r=>by
  cases r;obtain⟨its,rv,⟨o,n,e,c,_,d⟩,_⟩:=I.list hq;obtain⟨as,ra⟩:=DatVs.reads I hs rv;exact⟨_,.list e c d (by simpa using ra)⟩
theorem DatVs.reads(I:Inv X pins σ H s):∀{vs:List V} {ds:List PyData},DatVs X.K H vs ds->∀{us:List Value},Vals vs us->∃as,ReadsAll s.heap us ds as
 |_,_,.nil,_,.nil=>⟨[],.nil⟩
 |_,_,.cons h t,_,.cons r rr=>by
  obtain⟨a,ra⟩:=DatV.reads I h r;obtain⟨b,rb⟩:=DatVs.reads I t rr;exact⟨_,.cons ra rb⟩
end
end
section
variable{X:Cx}
theorem YO(hu:X.A.units+64<cLine):OpR X (compareOp .Eq) (λx y H Q=>∃d d',DatV X.K H x d/\DatV X.K H y d'/\SeqAt.shaped d=true/\SeqAt.shaped d'=true/\Q (.bl (PyData.eqv d d')) H):=by
 intro pins s σ H x y v u Q I rx ry h;obtain⟨d,d',h1,h2,s1,s2,q⟩:=h;obtain⟨as,ra⟩:=h1.reads I rx;obtain⟨bs,rb⟩:=h2.reads I ry;exact SeqAt.compareEq_shaped ra rb s1 s2 hu ⟨.bl _,H,I,rfl,q⟩
theorem YK(hu:X.A.units+64<cLine):OpR X (compareOp .NotEq) (λx y H Q=>∃d d',DatV X.K H x d/\DatV X.K H y d'/\SeqAt.shaped d=true/\SeqAt.shaped d'=true/\Q (.bl (!PyData.eqv d d')) H):=by
 intro pins s σ H x y v u Q I rx ry h;obtain⟨d,d',h1,h2,s1,s2,q⟩:=h;obtain⟨as,ra⟩:=h1.reads I rx;obtain⟨bs,rb⟩:=h2.reads I ry;exact SeqAt.compareNe_shaped ra rb s1 s2 hu ⟨.bl _,H,I,rfl,q⟩
theorem SY(hr:Room k A):A.units+64<cLine:=hr.units
end
theorem Inv.turnedL{X:Cx}{pins:List (Addr×Obj)}{σ:St}{H:Hp}{t':Nat}{ch:List Addr}(I:Inv X pins σ H s)(k:∀b o,b∉ch->s.heap.get? b=some o->h'.get? b=some o)(hf:∀b∈ch,EQ X pins H b):Inv X pins σ H { s with heap:=h',toks:=t' }:=by
 have nit:∀b u,H b=some u->b∉ch:=λb u e z=>by rw[(hf b z).1] at e;cases e
 refine I.step (g':=s.gens) (d':=s.drawn) (ch:=ch) (λb hb=>⟨(hf b hb).2.2.2.1,(hf b hb).2.1,(hf b hb).2.2.2.2.1,(hf b hb).2.2.2.2.2⟩) (λb o _ _ hc e _=>k b o hc e) (λb o _ _ hc e _=>⟨o.slots,k b o hc e⟩) (λ_ _ _ _ n=>n)
  (λb o hc e=>⟨o,k b o hc e⟩) (λ_ _ e=>e) (λ_ _ _ e=>e) (λb ps e=>⟨#[],by rw[e];simp⟩) (λm hm=>?_) (λb u e=>?_) I.bare
 ·obtain⟨o,es,ep,ho,r⟩:=hm;exact⟨o,es,ep,k _ o (λz=>(hf _ z).2.1 rfl) ho,r⟩
 ·refine(I.hok b u e).stay (λc v hc q=>k c v ?_ q) (λ_ q=>q) λ_ _ q=>q;rcases hc with z|z
  ·rw[z];exact nit b u e
  ·exact nit c _ z
noncomputable def ItP(K:PySem.W.Frag)(n:Nat)(src:Nat->List V)(Cond:PySem.W.Frag->Hp->Prop):It:=
 ⟨λi H=>i<n/\Cond K H,λi H v H'=>∃T,H T=none/\v=.ref T/\H'=upd H T (.tup (src i)),λi H=>i=n/\Cond K H⟩
theorem Hm{P:Program}{w:World}{K:PySem.W.Frag}{es:List Expr}{k0:Nat}{pos:Pos}{I0:Addr}{ι:Type}{fp wr:List Addr}{n:Nat}{src:Nat->List V}{good:ι->Prop}{Pt:ι->Nat->Array Value->Prop}{Sw:ι->Nat->Heap->Prop}{Mid:ι->Nat->Addr->Heap->Prop}{tn:Nat->Heap->Prop}{Cond:PySem.W.Frag->Hp->Prop}
  (W:∀A:Around,A.handled=none->∀z,good z->WalksT P w A I0 fp wr n (Pt z) (Sw z) (Mid z)) (hmem:I0∈wr) (hPt:∀z i vals,good z->Pt z i vals->Vals (src i) vals.toList) (hlen:∀i,(src i).length<=sizeLine)
  (obj:∀i h,tn i h->∀b∈wr,∃o,h.get? b=some o/\∀v,o.data≠.cell v)
  (keep:∀i h h',tn i h->(∀b∈wr,∀o,h.get? b=some o->h'.get? b=some o)->tn i h')
  (into:∀(X:Cx) (pins:List (Addr×Obj)) (σ:St) (H:Hp) (s:Shared) (i:Nat),X.prog=P->X.w=w->X.K=K->Inv X pins σ H s->Cond K H->tn i s.heap->∃z,good z/\Sw z i s.heap) (out:∀z i h,Sw z i h->tn i h)
  (self:∀(A:Around) (i:Nat) (s:Shared) (Q:Value->Shared->Prop) (E:Value->Shared->Prop),tn i s.heap->Q (.ref I0) s->wpAny (model P w) A (pyIter (.ref I0)) Q E s) :
  LM P w K (.Tuple es k0 pos) (ItP K n src Cond) wr I0 tn where
 mem:=hmem
 obj:=obj
 keep:=keep
 item:=by
  intro X hP hw hK hc i pins s σ H E I hf st hg;obtain⟨hi,hcond⟩:=hg;obtain⟨z,gz,sz⟩:=into X pins σ H s i hP hw hK I hcond st;have W':=W X.A (I.ok.hd hc) z gz;refine W'.item i s _ _ hi sz λT vals h' tk hp hT ht hm kk=>⟨_,rfl,?_⟩;have I1:Inv X pins σ H { s with heap:=h',toks:=tk }:=I.turnedL kk hf;refine W'.go es k0 pos i T _ _ _ hm λh2 st2 kk2=>?_;have I2:Inv X pins σ H { s with heap:=h2,toks:=tk }:=I1.turnedL (t':=tk) kk2 hf;have hn:H T=none:=I.hok.fresh hT;have ht2:IsTup h2 T vals:=by
   obtain⟨o,e,r⟩:=ht;exact⟨o,kk2 T o (W'.apart i T _ hm) e,r⟩
  refine⟨.ref T,upd H T (.tup (src i)),I2.track (I.fpOk hT hn) ⟨hlen i,vals.toList,hPt z i vals gz hp,by simpa using ht2⟩,rfl,⟨T,hn,rfl,rfl⟩,out z _ _ st2,λb hb=>?_⟩;have hbT:b≠T:=λz=>W'.apart i T _ hm (by rw[←z];exact hb);rw[A5 hbT];exact(hf b hb).1
 done:=by
  intro X hP hw hK hc i pins s σ H E I hf st hg;obtain⟨hi,hcond⟩:=hg;subst hi;obtain⟨z,gz,sz⟩:=into X pins σ H s i hP hw hK I hcond st;exact(W X.A (I.ok.hd hc) z gz).done s _ _ sz λh' tk kk=>⟨rfl,I.turnedL kk hf⟩
 self:=self
noncomputable def GN(xs:List V)(i:Nat):List V:=[.int i,xs.getD i .non]
theorem N7(r:Vals xs its)(h:∃t x,its.toArray[i]?=some x/\vals=#[.int i t,x]):Vals (GN xs i) vals.toList:=by
 obtain⟨t,x,hx,rfl⟩:=h;have hx':its[i]?=some x:=by simpa using hx
 have hlt:i<its.length:=(AAU.mp hx').1;have hl:=r.length;have hv:xs[i]?=some (xs.getD i .non):=by
  rw[AAt (by omega)];simp[List.getD,show i<xs.length by omega]
 obtain⟨u,hu,ru⟩:=r.get hv;rw[hx'] at hu;cases hu;exact .cons ⟨t,rfl⟩ (.cons ru .nil)
theorem WH{P:Program}{w:World}{f:Nat->Heap->Prop}(A:Around)(i:Nat)(s:Shared)(Q:Value->Shared->Prop)(E:Value->Shared->Prop)(st:(∃old,IsEnum s.heap e it i old)/\f i s.heap)(h:Q (.ref e) s):wpAny (model P w) A (pyIter (.ref e)) Q E s:=by
 obtain⟨⟨old,he⟩,_⟩:=st;exact wpAny_pyIter_enum he h
theorem Yo(he:∃old,IsEnum h e it i old)(ho:h.get? it=some o)(hd:∃vs,o.data=.fields vs):∀b∈[e,it],∃o,h.get? b=some o/\∀v,o.data≠.cell v:=λb hb=>by
 rcases AAJ.mp hb with z|z
 ·subst z;obtain⟨old,he⟩:=he;exact⟨_,he,λv q=>by cases q⟩
 ·rw[AAL.mp z];obtain⟨vs,hd⟩:=hd;exact⟨o,ho,λv q=>by rw[hd] at q;cases q⟩
end L2
namespace L2
open PySem PySem.Spec PyProof.Rows
open AutoSeq1 (wpAny_loadPart')
section
variable{X:Cx}
theorem RB:bootBuiltins "enumerate" = some (.type "enumerate"):=by decide +kernel
theorem XZ(I:Inv X pins σ H s):∀b∈[s.heap.objs.size+1,s.heap.objs.size],EQ X pins H b:=λb hb=>by
 have hb':b=s.heap.objs.size+1∨b=s.heap.objs.size:=by simpa using hb
 rcases hb' with e|e<;>subst e
 ·exact I.fpOk (Nat.le_succ _) (I.hok.fresh (Nat.le_succ _))
 ·exact I.fpOk (AAF _) (I.hok.fresh (AAF _))
end
end L2
namespace L2
open PySem PySem.Spec PyProof.Rows
def KGet(P:Params)(K:PySem.W.Frag)(a:Addr)(y:V)(r:Option V):Prop:=
 ∃x es n r',y=.str x/\K.lookup a=some ⟨.type "dict",none,.dict es n,#[]⟩/\PySem.W.KeysLit P es.toList/\PySem.W.nsIn K a x=some r'/\RelO r r'/\(a==sysModules)=false
section
variable{X:Cx}{pins:List (Addr×Obj)}{σ:St}{H:Hp}{s:Shared}{a:Addr}{y v:V}{u:Value}{o:Option V}{A:Around}{E:Value->Shared->Prop}
theorem KGet.typeIs(I:Inv X pins σ H s)(g:KGet X.w.params X.K a y o):s.TypeIs (.ref a) "dict" := by
 obtain⟨x,es,n,r',_,hl,_⟩:=g;exact⟨_,I.kIn a _ hl,rfl⟩
theorem Qn(I:Inv X pins σ H s)(g:KGet X.w.params X.K a y (some v))(ry:RelV y u)(h:∀w' s',Inv X pins σ H s'->RelV v w'->Q w' s'):
  wpAny (model X.prog X.w) A (getItem (.ref a) u) Q E s:=by
 obtain⟨x,es,n,r',e,hl,hk,hn,ro,_⟩:=g;subst e;obtain⟨t,rfl⟩:=ry;obtain⟨w',rfl,rw'⟩:=RelO.some_of ro;exact wpAny_getItem_of (strKind_is X.prog X.w x t) (PySem.W.mapOf_K (prog:=X.prog) (λa o q=>I.kIn a o q) hl hk) (PySem.W.find_K hl hn) (h w' _ (I.tok _) rw')
end
noncomputable def ZW(P:Params)(K:PySem.W.Frag)(td ty:TE):TE:=λσ H Q=>td σ H λx H1=>ty σ H1 λy H2=>∃a v,x=.ref a/\KGet P K a y (some v)/\Q v H2
section
variable{X:Cx}{o i:Expr}{pos:Pos}{td ty:TE}
theorem Ve(ho:PE X o td)(hi:PE X i ty)(hs:RF i):PE X (.Subscript o i pos) (ZW X.w.params X.K td ty):=by
 intro pins s σ H Q I h;refine Kj PySem.F.slot_dict_getitem.lookup hs (thn (ho pins s σ H _ I h) λu s1 ⟨x,H1,I1,rx,q1⟩=>thn (hi pins s1 σ H1 _ I1 q1) λiv s2 ⟨y,H2,I2,ry,a,v,ex,g,q2⟩=>?_);subst ex;obtain rfl:u=Value.ref a:=rx;exact⟨g.typeIs I2,Qn I2 g ry λw' s3 I3 rw'=>⟨v,H2,I3,rw',q2⟩⟩
end
end L2
namespace Nk
open PySem PySem.Spec PyProof.Rows
inductive NK where
 |int (i:Int)|tup (ks:List NK)
noncomputable instance:DecidableEq NK:=λ_ _=>Classical.propDecidable _
mutual
def NK.deep:NK->Nat
 | .int _=>0
 | .tup ks=>NK.deeps ks+1
def NK.deeps:List NK->Nat
 |[]=>0
 |k::ks=>max (NK.deep k) (NK.deeps ks)
end
mutual
def NK.hash:NK->Int
 | .int i=>hashInt i
 | .tup ks=>reduceHash (Builtin.Tuple.tupleHashOf (NK.hashes ks))
def NK.hashes:List NK->List Int
 |[]=>[]
 |k::ks=>NK.hash k::NK.hashes ks
end
mutual
def NK.draws:NK->Nat
 | .int _=>1
 | .tup ks=>NK.drawsL ks+1
def NK.drawsL:List NK->Nat
 |[]=>0
 |k::ks=>NK.draws k+NK.drawsL ks
end
mutual
def At(h:Heap):NK->Value->Prop
 | .int i,v=>∃t,v=.int i t
 | .tup ks,v=>∃a o items n,v=.ref a/\h.get? a=some o/\o.cls=.type "tuple" /\ o.data=.seq items n/\Ats h ks items.toList
def Ats(h:Heap):List NK->List Value->Prop
 |[],vs=>vs=[]
 |k::ks,vs=>∃v vs',vs=v::vs'/\At h k v/\Ats h ks vs'
end
mutual
theorem At.inj:∀{k j:NK} {v:Value},At h k v->At h j v->k=j
 | .int i,.int j,v,a,b=>by
  unfold At at a b;obtain⟨t,rfl⟩:=a;obtain⟨u,e⟩:=b;injection e with e1 _
  rw[e1]
 | .int i,.tup js,v,a,b=>by
  unfold At at a b;obtain⟨t,rfl⟩:=a;obtain⟨_,_,_,_,e,_⟩:=b;cases e
 | .tup ks,.int j,v,a,b=>by
  unfold At at a b;obtain⟨t,rfl⟩:=b;obtain⟨_,_,_,_,e,_⟩:=a;cases e
 | .tup ks,.tup js,v,a,b=>by
  unfold At at a b;obtain⟨x,o,items,n,rfl,h1,_,h3,h4⟩:=a;obtain⟨x',o',items',n',e,h1',_,h3',h4'⟩:=b;cases e;rw[h1] at h1';cases h1';rw[h3] at h3';cases h3';rw[Ats.inj h4 h4']
theorem Ats.inj:∀{ks js:List NK} {vs:List Value},Ats h ks vs->Ats h js vs->ks=js
 |[],[],_,_,_=>rfl
 |[],_::_,vs,a,b=>by
  unfold Ats at a b;subst a;obtain⟨_,_,e,_⟩:=b;cases e
 |_::_,[],vs,a,b=>by
  unfold Ats at a b;subst b;obtain⟨_,_,e,_⟩:=a;cases e
 |k::ks,j::js,vs,a,b=>by
  unfold Ats at a b;obtain⟨v,vs',rfl,a1,a2⟩:=a;obtain⟨v',vs'',e,b1,b2⟩:=b;cases e;rw[At.inj a1 b1,Ats.inj a2 b2]
end
mutual
theorem At.kept:∀{k:NK} {v:Value},At h k v->(∀a o items n,h.get? a=some o->o.cls=.type "tuple" -> o.data=.seq items n->h'.get? a=some o)->At h' k v
 | .int i,v,a,_=>by unfold At at a ⊢;exact a
 | .tup ks,v,a,kp=>by
  unfold At at a ⊢;obtain⟨x,o,items,n,rfl,h1,h2,h3,h4⟩:=a;exact⟨x,o,items,n,rfl,kp x o items n h1 h2 h3,h2,h3,Ats.kept h4 kp⟩
theorem Ats.kept:∀{ks:List NK} {vs:List Value},Ats h ks vs->(∀a o items n,h.get? a=some o->o.cls=.type "tuple" -> o.data=.seq items n->h'.get? a=some o)->Ats h' ks vs
 |[],vs,a,_=>by unfold Ats at a ⊢;exact a
 |k::ks,vs,a,kp=>by
  unfold Ats at a ⊢;obtain⟨v,vs',rfl,a1,a2⟩:=a;exact⟨v,vs',rfl,At.kept a1 kp,Ats.kept a2 kp⟩
end
section
variable{prog:Program}{w:World}{A:Around}{E:Value->Shared->Prop}{s:Shared}
theorem hash_tup(hu:A.units<cLine)(ho:s.heap.get? a=some o)(hc:o.cls=.type "tuple")(hd:o.data=.seq items n)
  (each:∀(P:Array Int->Shared->Prop),P hs.toArray { s with toks:=s.toks+d }->wpAny (model prog w) A.in1 (forIn items.toList (#[]:Array Int) λx r=>do let y ←pyHash x;pure (ForInStep.yield (r.push y))) P E s)
  (q:Q (reduceHash (Builtin.Tuple.tupleHashOf hs)) { s with toks:=s.toks+(d+1) }):wpAny (model prog w) A (pyHash (.ref a)) Q E s:=by
 have hT:s.TypeIs (.ref a) "tuple" := ⟨o,ho,hc⟩;show wpAny _ _ (pyHashByItsType (.ref a)) Q E s;unfold pyHashByItsType;refine AAA (wpAny_cRoomFor_or (.inr hu) (AAA (wpAny_specialOf hT PySem.F.slot_tuple_hash.lookup ?_)));rw[if_neg (by rw[beq_builtin_none];exact AAg)];refine AAA (wpAny_specialOf hT PySem.F.slot_tuple_hash.lookup ?_);show wpAny _ _ (callSpecialIfBoundUnlessNone? (.ref a) "__hash__" _ >>= _) Q E s;refine AAA (wpAny_callSpecialIfBoundUnlessNone?_slot hT PySem.F.slot_tuple_hash (AAd PySem.F.slot_tuple_hash hT PySem.F.entry_tuple_hash ?_ (PySem.F.args_tuple_hash_1 _)));show wpAny _ _ (Builtin.Tuple.tupleItemsOf (.ref a) >>= _) _ _ s;refine AAA (wpAny_tupleItemsOf ho hd (AAA ?_));rw[←Array.forIn_toList];refine each _ ?_;show wpAny _ _ (retInt (Builtin.Tuple.tupleHashOf hs.toArray.toList)) _ _ _;refine wpAny_ret_mkInt ?_;show wpAny _ _ (pyHashByItsType.reduced _) Q E _;unfold pyHashByItsType.reduced;unfold reduceHash at q;split
 ·rename_i hr;rw[if_pos hr] at q;exact AAB q
 ·rename_i hr;rw[if_neg hr] at q;exact AAA (wpAny_rule (AAB q))
mutual
theorem At.hash:∀{k:NK} {v:Value} {A:Around} {E:Value->Shared->Prop} {s:Shared} {Q:Int->Shared->Prop},A.units+k.deep<cLine->At s.heap k v->Q k.hash { s with toks:=s.toks+k.draws }->wpAny (model prog w) A (pyHash v) Q E s
 | .int i,v,A,E,s,Q,hu,hk,q=>by
  unfold At at hk;obtain⟨t,rfl⟩:=hk;exact(intKind prog w).pyHash (k:=i) (by simp[intKind,Value.isInt]) q
 | .tup ks,v,A,E,s,Q,hu,hk,q=>by
  unfold At at hk;obtain⟨a,o,items,n,rfl,h1,h2,h3,h4⟩:=hk;have hu':A.units+(NK.deeps ks+1)<cLine:=hu;refine hash_tup (hs:=NK.hashes ks) (d:=NK.drawsL ks) (by omega) h1 h2 h3 (λP p=>?_) q;exact Ats.hash (A:=A.in1) (by show A.units+1+NK.deeps ks<cLine;omega) h4 (acc:=#[]) (by simpa using p)
theorem Ats.hash:∀{ks:List NK} {vs:List Value} {A:Around} {E:Value->Shared->Prop} {s:Shared} {acc:Array Int} {P:Array Int->Shared->Prop},A.units+NK.deeps ks<cLine->Ats s.heap ks vs->P (acc++(NK.hashes ks).toArray) { s with toks:=s.toks+NK.drawsL ks }->
  wpAny (model prog w) A (forIn vs acc λx r=>do let y ←pyHash x;pure (ForInStep.yield (r.push y))) P E s
 |[],vs,A,E,s,acc,P,hu,hk,q=>by
  unfold Ats at hk;subst hk;rw[List.forIn_nil];exact AAB (by simpa[NK.hashes,NK.drawsL] using q)
 |k::ks,vs,A,E,s,acc,P,hu,hk,q=>by
  unfold Ats at hk;obtain⟨v,vs',rfl,a1,a2⟩:=hk;rw[List.forIn_cons];have hu':A.units+max (NK.deep k) (NK.deeps ks)<cLine:=hu;refine AAA (AAA (At.hash (by omega) a1 (AAB ?_)));refine Ats.hash (by omega) (s:={ s with toks:=s.toks+k.draws }) a2 ?_;simpa[NK.hashes,NK.drawsL,Nat.add_assoc] using q
end
end
end Nk
namespace Nk
open PySem PySem.Spec PyProof.Rows PySem.MeetsSeq PySem.SeqAt
theorem Ats.len:∀{ks:List NK} {vs:List Value},Ats h ks vs->vs.length=ks.length
 |[],_,a=>by unfold Ats at a;subst a;rfl
 |k::ks,_,a=>by
  unfold Ats at a;obtain⟨v,vs',rfl,_,a2⟩:=a;simp[Ats.len a2]
noncomputable def C7(ks js:List NK)(j:Nat):Bool:=decide (ks[j]?=js[j]?)
theorem Gn:((List.range (min ks.length js.length)).all (C7 ks js)&&ks.length==js.length)=decide (NK.tup ks=NK.tup js):=by
 by_cases e:ks=js
 ·subst e;rw[AAP rfl,beq_self_eq_true,Bool.and_true,List.all_eq_true];intro j _;exact AAP rfl
 ·rw[AAO (λz=>e (NK.tup.inj z))];by_cases hl:ks.length=js.length
  ·rw[beq_iff_eq.mpr hl,Bool.and_true,←Bool.not_eq_true];intro z;rw[List.all_eq_true] at z;refine e (List.ext_getElem? λj=>?_);by_cases hj:j<ks.length
   ·exact of_decide_eq_true (z j (List.mem_range.mpr (by omega)))
   ·rw[List.getElem?_eq_none (by omega),List.getElem?_eq_none (by omega)]
  ·rw[AAf.mpr hl,Bool.and_false]
mutual
theorem At.eq:∀{k j:NK} {u v:Value} {A:Around} {s:Shared},A.units+k.deep<cLine->At s.heap k u->At s.heap j v->EqAt A s u v (decide (k=j))
 | .int i,.int j,u,v,A,s,hu,a,b=>by
  unfold At at a b;obtain⟨t,rfl⟩:=a;obtain⟨t',rfl⟩:=b;have:decide (NK.int i=NK.int j)=(i==j):=by
   by_cases e:i=j
   ·subst e;simp
   ·rw[AAO (λz=>e (NK.int.inj z)),AAf.mpr e]
  rw[this];exact EqAt.int_int i t j t'
 | .int i,.tup js,u,v,A,s,hu,a,b=>by
  unfold At at a b;obtain⟨t,rfl⟩:=a;obtain⟨x,o,items,n,rfl,h1,h2,h3,_⟩:=b;rw[AAO (by intro z;cases z)];exact EqAt.int_tuple i t ⟨o,h1,h2,n,h3⟩ (AAr (Nat.le_add_right _ _) hu)
 | .tup ks,.int j,u,v,A,s,hu,a,b=>by
  unfold At at a b;obtain⟨t,rfl⟩:=b;obtain⟨x,o,items,n,rfl,h1,h2,h3,_⟩:=a;rw[AAO (by intro z;cases z)];exact EqAt.tuple_int j t ⟨o,h1,h2,n,h3⟩ (AAr (Nat.le_add_right _ _) hu)
 | .tup ks,.tup js,u,v,A,s,hu,a,b=>by
  have a':=a;have b':=b;unfold At at a b;obtain⟨x,o,items,n,rfl,h1,h2,h3,h4⟩:=a;obtain⟨y,o',items',n',rfl,h1',h2',h3',h4'⟩:=b;have hu':A.units+(NK.deeps ks+1)<cLine:=hu;by_cases e:x=y
  ·subst e;rw[At.inj a' b',AAP rfl];exact EqAt.same _
  ·rw[←Gn];have l1:=h4.len;have l2:=h4'.len;rw[Array.length_toList] at l1 l2;rw[←l1,←l2];refine EqAt.of_refs e (RcAt.tuples ⟨o,h1,h2,n,h3⟩ ⟨o',h1',h2',n',h3'⟩ (by omega) λj g1 g2=>?_);have:=Ats.eqs (A:=A.in1) (by show A.units+1+NK.deeps ks<cLine;omega) h4 h4' j (by simpa using g1) (by simpa using g2);simpa using this
theorem Ats.eqs:∀{ks js:List NK} {us vs:List Value} {A:Around} {s:Shared},A.units+NK.deeps ks<cLine->Ats s.heap ks us->Ats s.heap js vs->∀(j:Nat) (h1:j<us.length) (h2:j<vs.length),EqAt A s us[j] vs[j] (C7 ks js j)
 |[],js,us,vs,A,s,hu,a,b,j,h1,h2=>by unfold Ats at a;subst a;simp at h1
 |k::ks,[],us,vs,A,s,hu,a,b,j,h1,h2=>by unfold Ats at b;subst b;simp at h2
 |k::ks,l::js,us,vs,A,s,hu,a,b,j,h1,h2=>by
  unfold Ats at a b;obtain⟨u,us',rfl,a1,a2⟩:=a;obtain⟨v,vs',rfl,b1,b2⟩:=b;have hu':A.units+max (NK.deep k) (NK.deeps ks)<cLine:=hu;cases j with
  |zero=>
   have:=At.eq (k:=k) (j:=l) (A:=A) (by omega) a1 b1;have e:C7 (k::ks) (l::js) 0=decide (k=l):=by unfold C7;simp
   rw[e];exact this
  |succ j=>
   have:=Ats.eqs (A:=A) (by omega) a2 b2 j (by simpa using h1) (by simpa using h2);have e:C7 (k::ks) (l::js) (j+1)=C7 ks js j:=by unfold C7;simp
   rw[e];simpa using this
end
section
variable{prog:Program}{w:World}
theorem At.quiet:∀(d:Nat) {k:NK} {v:Value} {A:Around} {E:Value->Shared->Prop} {s:Shared} {Q:Bool->Shared->Prop},k.deep<=d->At s.heap k v->Q true s->wpAny (model prog w) A (eqIsQuiet d v) Q E s
 |d,.int i,v,A,E,s,Q,hd,a,q=>by
  unfold At at a;obtain⟨t,rfl⟩:=a;unfold eqIsQuiet;exact AAB q
 |0,.tup ks,v,A,E,s,Q,hd,a,q=>by
  have hd':NK.deeps ks+1<=0:=hd;omega
 |d'+1,.tup ks,v,A,E,s,Q,hd,a,q=>by
  have hd':NK.deeps ks+1<=d'+1:=hd;unfold At at a;obtain⟨x,o,items,n,rfl,h1,h2,h3,h4⟩:=a;have hT:s.TypeIs (.ref x) "tuple" := ⟨o,h1,h2⟩;unfold eqIsQuiet;refine AAA (wpAny_specialOf hT PySem.F.slot_tuple_eq.lookup ?_);show wpAny _ _ (isInstance (.ref x) (.type "tuple") >>= _) _ _ s;refine AAA (AA0 hT isSubtype_tuple_tuple ?_);simp only[Bool.not_true,Bool.false_eq_true,if_false];refine AAA (AAy h1 h3 (AAA ?_));show wpAny _ _ (forIn items _ _) _ _ s;rw[←Array.forIn_toList];refine wpAny_forIn_list _ (λBG r s'=>r.1=none/\s'=s/\∃ks',NK.deeps ks'<=d'/\Ats s.heap ks' BG) _ ?_ ?_ _ _ ⟨rfl,rfl,ks,by omega,h4⟩
  ·rintro y BG r s' ⟨hr,rfl,ks',hk,at'⟩;cases ks' with
   |nil=>unfold Ats at at';cases at'
   |cons k' ks'=>
    unfold Ats at at';obtain⟨_,_,e,a1,a2⟩:=at';cases e;have hk':max (NK.deep k') (NK.deeps ks')<=d':=hk;refine AAA (At.quiet d' (k:=k') (by omega) a1 ?_);simp only[Bool.not_true,Bool.false_eq_true,if_false];exact AAB ⟨rfl,rfl,ks',by omega,a2⟩
  ·rintro⟨r1,r2⟩ s' ⟨hr,rfl,_⟩;simp only at hr;subst hr;exact AAB q
noncomputable def kind(prog:Program)(w:World):HeapKind prog w NK where
 is:=λh k a=>At h k (.ref a)/\k.deep<=8
 hash:=NK.hash
 draws:=NK.draws
 room:=λA=>A.units+8<cLine
 inj:=λhx hy=>hx.1.inj hy.1
 keeps:=λ{h h' k a d o es ep} x ho hd hs=>⟨x.1.kept λb o' items n e _ e3=>by
  have hne:b≠d:=by
   intro z;subst z;rw[ho] at e;cases e;rw[hd] at e3;cases e3
  exact(hs.2 b hne).trans e,x.2⟩
 pyHash:=λhu hk h=>At.hash (by have:=hk.2;omega) hk.1 h
 eqBool:=λ{A E s x y a b Q} hu hx hy h=>At.eq (by have:=hx.2;omega) hx.1 hy.1 _ _ E Q h
 quiet:=λhk h=>At.quiet 8 hk.2 hk.1 h
end
noncomputable abbrev Cs:=Int×Int×List Int
noncomputable def csK(c:Cs):NK:=.tup [.int c.1,.int c.2.1,.tup (c.2.2.map NK.int)]
open L2 in
noncomputable def De(p:Addr)(l:List (Cs×Addr×V)):HO:=.ext λh=>∃(us:List Value) (o:Obj) (es:Array DictEntry) (ep:Nat),Vals (l.map (·.2.2)) us/\h.get? p=some o/\o.ExactDict/\o.data=.dict es ep /\
 es.toList=(l.zip us).map (λx=>{ key:=.ref x.1.2.1,hash:=(csK x.1.1).hash,val:=x.2 })/\(l.map (·.1)).Nodup/\l.length<=sizeLine/\(p==sysModules)=false
end Nk
namespace Mi
open PySem L2 Nk
inductive D where
 |non|bl (b:Bool)|int (i:Int)|str (x:Str)|ty (n:String)|scr (ns:List Int)|tup (xs:List D)|lst (xs:List D)|ref (n:Nat)
mutual
def Dh:D->D->Bool
 | .non,.non=>true
 | .bl a,.bl b=>a==b
 | .int a,.int b=>a==b
 | .str a,.str b=>a==b
 | .ty a,.ty b=>a==b
 | .scr a,.scr b=>a==b
 | .tup a,.tup b=>M6 a b
 | .lst a,.lst b=>M6 a b
 | .ref a,.ref b=>a==b
 |_,_=>false
def M6:List D->List D->Bool
 |[],[]=>true
 |a::as,b::bs=>Dh a b&&M6 as bs
 |_,_=>false
end
mutual
theorem Po:∀{a b:D},Dh a b=true->a=b
 | .tup a,.tup b,h=>by unfold Dh at h;rw[He h]
 | .lst a,.lst b,h=>by unfold Dh at h;rw[He h]
 | .non,b,h=>by cases b<;>first|rfl|cases h
 | .bl a,b,h=>by cases b<;>first|(unfold Dh at h;rw[eq_of_beq h])|cases h
 | .int a,b,h=>by cases b<;>first|(unfold Dh at h;rw[eq_of_beq h])|cases h
 | .str a,b,h=>by cases b<;>first|(unfold Dh at h;rw[eq_of_beq h])|cases h
 | .ty a,b,h=>by cases b<;>first|(unfold Dh at h;rw[eq_of_beq h])|cases h
 | .scr a,b,h=>by cases b<;>first|(unfold Dh at h;rw[eq_of_beq h])|cases h
 | .ref a,b,h=>by cases b<;>first|(unfold Dh at h;rw[eq_of_beq h])|cases h
theorem He:∀{a b:List D},M6 a b=true->a=b
 |[],[],_=>rfl
 |a::as,b::bs,h=>by
  unfold M6 at h;rw[Bool.and_eq_true] at h;rw[Po h.1,He h.2]
end
mutual
theorem KU:∀a:D,Dh a a=true
 | .tup a=>by unfold Dh;exact G4 a
 | .lst a=>by unfold Dh;exact G4 a
 | .non=>rfl
 | .bl a=>by unfold Dh;exact beq_self_eq_true a
 | .int a=>by unfold Dh;exact beq_self_eq_true a
 | .str a=>by unfold Dh;exact beq_self_eq_true a
 | .ty a=>by unfold Dh;exact beq_self_eq_true a
 | .scr a=>by unfold Dh;exact beq_self_eq_true a
 | .ref a=>by unfold Dh;exact beq_self_eq_true a
theorem G4:∀a:List D,M6 a a=true
 |[]=>rfl
 |a::as=>by unfold M6;rw[KU a,G4 as];rfl
end
instance:DecidableEq D:=λa b=>if h:Dh a b=true then .isTrue (Po h) else .isFalse λe=>h (by rw[e];exact KU b)
inductive MO where
 |lst (xs:List D)|dK (kvs:List (Key×D))|dC (kvs:List (Cs×D))|ins (c:Str) (fs:List (Str×D))|dP (kvs:List (D×D))
abbrev Mh:=List MO
set_option genInjectivity false in
structure KW where
 fr:PySem.W.Frag
 w:World
instance:CoeOut KW PySem.W.Frag:=⟨KW.fr⟩
noncomputable abbrev _root_.L2.Cx.kw(X:Cx):KW:=⟨X.K,X.w⟩
noncomputable abbrev M(α:Type):=Mh->Option (α×Mh)
abbrev Sl:=List (Option D)
noncomputable def ret{α:Type}(a:α):M α:=λμ=>some (a,μ)
noncomputable def bnd{α β:Type}(m:M α)(f:α->M β):M β:=λμ=>match m μ with
 |some (a,μ1)=>f a μ1
 |none=>none
noncomputable def BK{α:Type}:M α:=λ_=>none
theorem AL(h:bnd m f μ=some r):∃a μ1,m μ=some (a,μ1)/\f a μ1=some r:=by
 unfold bnd at h;cases e:m μ with
 |none=>rw[e] at h;cases h
 |some p=>obtain⟨a,μ1⟩:=p;rw[e] at h;exact⟨a,μ1,rfl,h⟩
@[simp] theorem ab(a:α)(f:α->M β):bnd (ret a) f=f a:=rfl
theorem BN(h:m μ=some (a,μ1)):bnd m f μ=f a μ1:=by unfold bnd;rw[h]
def ScrAt(K:PySem.W.Frag)(H:Hp)(a:Addr)(xs:List V):Prop:=
 (∃o,H a=some (.frz o (.lst xs)))∨∃(o:Obj) (its:Array Value) (n:Nat),K.lookup a=some o/\o.cls=.type "list" /\ o.dict=none/\o.data=.seq its n/\its.size<=sizeLine/\Vals xs its.toList
theorem ScrAt.sq(h:ScrAt K H a xs):SqL K H a xs:=h.elim (λz=>.inl (.inr z)) .inr
mutual
def Is(K:KW)(ι:Nat->Addr)(k:Nat)(H:Hp):D->V->Prop
 | .non,v=>v=.non
 | .bl b,v=>v=.bl b
 | .int i,v=>v=.int i
 | .str x,v=>v=.str x
 | .ty n,v=>v=.ty n
 | .scr ns,v=>∃p,v=.ref p/\ScrAt K H p (ns.map V.int)
 | .tup ds,v=>∃p vs,v=.ref p/\SqT K H p vs/\IsL K ι k H ds vs
 | .lst ds,v=>∃p vs,v=.ref p/\H p=some (.lst vs)/\(∀n,n<k->ι n≠p)/\IsL K ι k H ds vs
 | .ref n,v=>n<k/\v=.ref (ι n)
def IsL(K:KW)(ι:Nat->Addr)(k:Nat)(H:Hp):List D->List V->Prop
 |[],vs=>vs=[]
 |d::ds,vs=>∃v vs',vs=v::vs'/\Is K ι k H d v/\IsL K ι k H ds vs'
end
section
variable{K:KW}{ι ι' ι2:Nat->Addr}{k k' k2:Nat}{H H' H2:Hp}
theorem IsL.length:∀{ds:List D} {vs:List V},IsL K ι k H ds vs->vs.length=ds.length
 |[],_,h=>by unfold IsL at h;subst h;rfl
 |_::_,_,h=>by
  unfold IsL at h;obtain⟨v,vs',rfl,_,h⟩:=h;simp only[AAI,IsL.length h]
theorem IsL.get:∀{ds:List D} {vs:List V} {i:Nat} {d:D},IsL K ι k H ds vs->ds[i]?=some d->∃v,vs[i]?=some v/\Is K ι k H d v
 |[],_,_,_,_,e=>by simp at e
 |_::_,_,0,_,h,e=>by
  unfold IsL at h;obtain⟨v,vs',rfl,h1,_⟩:=h;simp at e;subst e;exact⟨v,rfl,h1⟩
 |_::_,_,i+1,d,h,e=>by
  unfold IsL at h;obtain⟨v,vs',rfl,_,h⟩:=h;obtain⟨u,e1,e2⟩:=IsL.get (i:=i) (d:=d) h (by simpa using e);exact⟨u,by simpa using e1,e2⟩
theorem IsL.append:∀{ds es:List D} {vs us:List V},IsL K ι k H ds vs->IsL K ι k H es us->IsL K ι k H (ds++es) (vs++us)
 |[],_,_,_,h,q=>by unfold IsL at h;subst h;exact q
 |_::_,_,_,_,h,q=>by
  unfold IsL at h;obtain⟨v,vs',rfl,h1,h⟩:=h;show IsL K ι k H (_::(_++_)) _;unfold IsL;exact⟨v,_,rfl,h1,IsL.append h q⟩
theorem IsL.take:∀(n:Nat) {ds:List D} {vs:List V},IsL K ι k H ds vs->IsL K ι k H (ds.take n) (vs.take n)
 |0,ds,vs,_=>by rw[List.take_zero,List.take_zero];unfold IsL;rfl
 |n+1,[],_,h=>by unfold IsL at h;subst h;simp only[List.take_nil];unfold IsL;rfl
 |n+1,_::_,_,h=>by
  unfold IsL at h;obtain⟨v,vs',rfl,h1,h⟩:=h;simp only[List.take_succ_cons];unfold IsL;exact⟨v,_,rfl,h1,IsL.take n h⟩
theorem IsL.drop:∀(n:Nat) {ds:List D} {vs:List V},IsL K ι k H ds vs->IsL K ι k H (ds.drop n) (vs.drop n)
 |0,_,_,h=>h
 |n+1,[],_,h=>by unfold IsL at h;subst h;simp only[List.drop_nil];unfold IsL;rfl
 |n+1,_::_,_,h=>by
  unfold IsL at h;obtain⟨v,vs',rfl,h1,h⟩:=h;simp only[List.drop_succ_cons];exact IsL.drop n h
theorem IsL.cons(h:Is K ι k H d v)(t:IsL K ι k H ds vs):IsL K ι k H (d::ds) (v::vs):=by
 unfold IsL;exact⟨v,vs,rfl,h,t⟩
theorem IsL.nil:IsL K ι k H [] []:=by unfold IsL;rfl
theorem IsL.one(h:Is K ι k H d v):IsL K ι k H [d] [v]:=.cons h .nil
theorem IsL.reverse:∀{ds:List D} {vs:List V},IsL K ι k H ds vs->IsL K ι k H ds.reverse vs.reverse
 |[],_,h=>by unfold IsL at h;subst h;exact .nil
 |_::_,_,h=>by
  unfold IsL at h;obtain⟨v,vs',rfl,h1,h⟩:=h;rw[List.reverse_cons,List.reverse_cons];exact(IsL.reverse h).append (.one h1)
theorem IsL.ints:∀{ns:List Int} {vs:List V},IsL K ι k H (ns.map D.int) vs->vs=ns.map V.int
 |[],_,h=>by unfold IsL at h;exact h
 |_::_,_,h=>by
  unfold List.map IsL at h;obtain⟨v,vs',rfl,h1,h⟩:=h;unfold Is at h1;rw[h1,IsL.ints h];rfl
theorem IsL.ofInts:∀(ns:List Int),IsL K ι k H (ns.map D.int) (ns.map V.int)
 |[]=>.nil
 |n::r=>.cons (by unfold Is;rfl) (IsL.ofInts r)
noncomputable def Tn:HO->Bool
 | .lst _=>true
 | .dK _=>true
 | .ext _=>true
 | .ins _ _ _=>true
 |_=>false
def Muts(ι:Nat->Addr)(k:Nat)(H:Hp):Prop:=∀n,n<k->∃o,H (ι n)=some o/\Tn o=true
structure Ext(ι:Nat->Addr)(k:Nat)(H:Hp)(ι':Nat->Addr)(k':Nat)(H':Hp):Prop where
 le:k<=k'
 agree:∀n,n<k->ι' n=ι n
 fresh:∀n,k<=n->n<k'->H (ι' n)=none
 keep:∀p o,H p=some o->(∀n,n<k->ι n≠p)->H' p=some o
 was:Muts ι k H
 there:Muts ι k H'
theorem Ext.refl(h:Muts ι k H):Ext ι k H ι k H:=⟨AAF _,λ_ _=>rfl,λn h1 h2=>absurd h1 (by omega),λ_ _ e _=>e,h,h⟩
theorem Ext.trans(a:Ext ι k H ι' k' H')(b:Ext ι' k' H' ι2 k2 H2):Ext ι k H ι2 k2 H2 where
 le:=AAs a.le b.le
 agree:=λn h=>(b.agree n (AAN h a.le)).trans (a.agree n h)
 fresh:=λn h1 h2=>by
  rcases Nat.lt_or_ge n k' with z|z
  ·rw[b.agree n z];exact a.fresh n h1 z
  ·have q:=b.fresh n z h2;cases e:H (ι2 n) with
   |none=>rfl
   |some o=>
    by_cases hx:∃m,m<k/\ι m=ι2 n
    ·obtain⟨m,hm,e2⟩:=hx;obtain⟨o',q',_⟩:=a.there m hm;rw[e2,q] at q';cases q'
    ·have:=a.keep _ o e (λm hm e2=>hx ⟨m,hm,e2⟩);rw[q] at this;cases this
 keep:=λp o e hn=>b.keep p o (a.keep p o e hn) (λn hlt e2=>by
  rcases Nat.lt_or_ge n k with z|z
  ·rw[a.agree n z] at e2;exact hn n z e2
  ·have:=a.fresh n z hlt;rw[e2,e] at this;cases this)
 was:=a.was
 there:=λn h=>by
  have:=b.there n (AAN h a.le);rw[a.agree n h] at this;exact this
theorem Ext.out(a:Ext ι k H ι' k' H')(e:H p=some o)(hn:∀n,n<k->ι n≠p):∀n,n<k'->ι' n≠p:=λn h e2=>by
 rcases Nat.lt_or_ge n k with z|z
 ·rw[a.agree n z] at e2;exact hn n z e2
 ·have:=a.fresh n z h;rw[e2,e] at this;cases this
theorem Muts.ne(a:Muts ι k H)(e:H p=some o)(hm:Tn o=false):∀n,n<k->ι n≠p:=λn hn e2=>by
 obtain⟨o',q,h⟩:=a n hn;rw[e2,e] at q;cases q;rw[hm] at h;cases h
theorem Fr(a:Ext ι k H ι' k' H')(h:SqT K H p vs):SqT K H' p vs:=by
 rcases h with h|h
 ·rcases h with h|⟨o,h⟩
  ·exact .inl (.inl (a.keep p _ h (a.was.ne h rfl)))
  ·exact .inl (.inr ⟨o,a.keep p _ h (a.was.ne h rfl)⟩)
 ·exact .inr h
theorem Os(a:Ext ι k H ι' k' H')(h:ScrAt K H p vs):ScrAt K H' p vs:=by
 rcases h with ⟨o,h⟩|h
 ·exact .inl ⟨o,a.keep p _ h (a.was.ne h rfl)⟩
 ·exact .inr h
mutual
theorem Is.ext(a:Ext ι k H ι' k' H'):∀{d:D} {v:V},Is K ι k H d v->Is K ι' k' H' d v
 | .non,_,h=>by unfold Is at h ⊢;exact h
 | .bl _,_,h=>by unfold Is at h ⊢;exact h
 | .int _,_,h=>by unfold Is at h ⊢;exact h
 | .str _,_,h=>by unfold Is at h ⊢;exact h
 | .ty _,_,h=>by unfold Is at h ⊢;exact h
 | .scr ns,_,h=>by
  unfold Is at h ⊢;obtain⟨p,rfl,h⟩:=h;exact⟨p,rfl,Os a h⟩
 | .tup ds,_,h=>by
  unfold Is at h ⊢;obtain⟨p,vs,rfl,h1,h2⟩:=h;exact⟨p,vs,rfl,Fr a h1,IsL.ext a h2⟩
 | .lst ds,_,h=>by
  unfold Is at h ⊢;obtain⟨p,vs,rfl,h1,hn,h2⟩:=h;exact⟨p,vs,rfl,a.keep p _ h1 hn,a.out h1 hn,IsL.ext a h2⟩
 | .ref n,_,h=>by
  unfold Is at h ⊢;obtain⟨h,rfl⟩:=h;exact⟨AAN h a.le,by rw[a.agree n h]⟩
theorem IsL.ext(a:Ext ι k H ι' k' H'):∀{ds:List D} {vs:List V},IsL K ι k H ds vs->IsL K ι' k' H' ds vs
 |[],_,h=>by unfold IsL at h ⊢;exact h
 |_::_,_,h=>by
  unfold IsL at h ⊢;obtain⟨v,vs',rfl,h1,h2⟩:=h;exact⟨v,vs',rfl,Is.ext a h1,IsL.ext a h2⟩
end
noncomputable def KVs(K:KW)(ι:Nat->Addr)(k:Nat)(H:Hp):List (Key×D)->List (Key×V)->Prop
 |[],r=>r=[]
 |(y,d)::l,r=>∃v r',r=(y,v)::r'/\Is K ι k H d v/\KVs K ι k H l r'
theorem KVs.ext(a:Ext ι k H ι' k' H'):∀{l:List (Key×D)} {r:List (Key×V)},KVs K ι k H l r->KVs K ι' k' H' l r
 |[],_,h=>h
 |(_,_)::_,_,h=>by
  obtain⟨v,r',rfl,h1,h2⟩:=h;exact⟨v,r',rfl,h1.ext a,h2.ext a⟩
noncomputable def csD(c:Cs):D:=.tup [.int c.1,.int c.2.1,.tup (c.2.2.map D.int)]
noncomputable def CVs(K:KW)(ι:Nat->Addr)(k:Nat)(H:Hp):List (Cs×D)->List (Cs×Addr×V)->Prop
 |[],r=>r=[]
 |(y,d)::l,r=>∃a v r',r=(y,a,v)::r'/\Is K ι k H (csD y) (.ref a)/\Is K ι k H d v/\CVs K ι k H l r'
theorem CVs.ext(a:Ext ι k H ι' k' H'):∀{l:List (Cs×D)} {r:List (Cs×Addr×V)},CVs K ι k H l r->CVs K ι' k' H' l r
 |[],_,h=>h
 |(_,_)::_,_,h=>by
  obtain⟨b,v,r',rfl,h1,h2,h3⟩:=h;exact⟨b,v,r',rfl,h1.ext a,h2.ext a,h3.ext a⟩
noncomputable def FVs(K:KW)(ι:Nat->Addr)(k:Nat)(H:Hp):List (Str×D)->List (Str×V)->Prop
 |[],r=>r=[]
 |(y,d)::l,r=>∃v r',r=(y,v)::r'/\Is K ι k H d v/\FVs K ι k H l r'
theorem FVs.ext(a:Ext ι k H ι' k' H'):∀{l:List (Str×D)} {r:List (Str×V)},FVs K ι k H l r->FVs K ι' k' H' l r
 |[],_,h=>h
 |(_,_)::_,_,h=>by
  obtain⟨v,r',rfl,h1,h2⟩:=h;exact⟨v,r',rfl,h1.ext a,h2.ext a⟩
mutual
def hD(w:World):D->Int
 | .int i=>hashInt i
 | .str x=>hashStr w x
 | .tup ks=>reduceHash (Builtin.Tuple.tupleHashOf (hDs w ks))
 |_=>0xFCA86420
def hDs(w:World):List D->List Int
 |[]=>[]
 |k::ks=>hD w k::hDs w ks
end
noncomputable def EK(w:World)(p:Addr)(l:List (D×Addr×V)):HO:=.ext λh=>∃(us:List Value) (o:Obj) (es:Array DictEntry) (ep:Nat),Vals (l.map (·.2.2)) us/\h.get? p=some o/\o.ExactDict/\o.data=.dict es ep /\
 es.toList=(l.zip us).map (λx=>{ key:=.ref x.1.2.1,hash:=hD w x.1.1,val:=x.2 })/\(l.map (·.1)).Nodup/\l.length<=sizeLine/\(p==sysModules)=false
mutual
def Kz:D->Bool
 | .non=>true
 | .int _=>true
 | .str _=>true
 | .tup ds=>KzL ds
 |_=>false
def KzL:List D->Bool
 |[]=>true
 |d::ds=>Kz d&&KzL ds
end
mutual
def deep:D->Nat
 | .tup ks=>deeps ks+1
 |_=>0
def deeps:List D->Nat
 |[]=>0
 |k::ks=>max (deep k) (deeps ks)
end
noncomputable def PVs(K:KW)(ι:Nat->Addr)(k:Nat)(H:Hp):List (D×D)->List (D×Addr×V)->Prop
 |[],r=>r=[]
 |(y,d)::l,r=>∃a v r',r=(y,a,v)::r'/\(Kz y=true/\deep y<=8/\Is K ι k H y (.ref a))/\Is K ι k H d v/\PVs K ι k H l r'
theorem PVs.ext(a:Ext ι k H ι' k' H'):∀{l:List (D×D)} {r:List (D×Addr×V)},PVs K ι k H l r->PVs K ι' k' H' l r
 |[],_,h=>h
 |(_,_)::_,_,h=>by
  obtain⟨b,v,r',rfl,h1,h2,h3⟩:=h;exact⟨b,v,r',rfl,⟨h1.1,h1.2.1,h1.2.2.ext a⟩,h2.ext a,h3.ext a⟩
def ClsAt(K:PySem.W.Frag)(c:Str)(C:Addr):Prop:=PySem.W.nsIn K mainGlobals c=some (some (.ref C))
noncomputable def ObjIs(K:KW)(ι:Nat->Addr)(k:Nat)(H:Hp)(p:Addr):MO->HO->Prop
 | .lst ds,o=>∃vs,o=.lst vs/\IsL K ι k H ds vs
 | .dK l,o=>∃r,o=.dK r/\KVs K ι k H l r
 | .dC l,o=>∃r,o=De p r/\CVs K ι k H l r
 | .ins c l,o=>∃C dx r,o=.ins C dx r/\ClsAt K c C/\H dx=some (.own p)/\FVs K ι k H l r
 | .dP l,o=>∃r,o=EK K.w p r/\PVs K ι k H l r
structure RelH(K:KW)(ι:Nat->Addr)(μ:Mh)(H:Hp):Prop where
 inj:∀i j,i<μ.length->j<μ.length->ι i=ι j->i=j
 obj:∀n o,μ[n]?=some o->∃u,H (ι n)=some u/\ObjIs K ι μ.length H (ι n) o u
theorem ObjIs.mut(h:ObjIs K ι k H p o u):Tn u=true:=by
 cases o with
 |lst ds=>obtain⟨vs,rfl,_⟩:=h;rfl
 |dK l=>obtain⟨r,rfl,_⟩:=h;rfl
 |dC l=>obtain⟨r,rfl,_⟩:=h;rfl
 |ins c l=>obtain⟨C,dx,r,rfl,_⟩:=h;rfl
 |dP l=>obtain⟨r,rfl,_⟩:=h;rfl
theorem ObjIs.ext(a:Ext ι k H ι' k' H')(h:ObjIs K ι k H p o u):ObjIs K ι' k' H' p o u:=by
 cases o with
 |lst ds=>obtain⟨vs,rfl,h⟩:=h;exact⟨vs,rfl,h.ext a⟩
 |dK l=>obtain⟨r,rfl,h⟩:=h;exact⟨r,rfl,h.ext a⟩
 |dC l=>obtain⟨r,rfl,h⟩:=h;exact⟨r,rfl,h.ext a⟩
 |ins c l=>obtain⟨C,dx,r,rfl,h0,h1,h⟩:=h;exact⟨C,dx,r,rfl,h0,a.keep dx _ h1 (a.was.ne h1 rfl),h.ext a⟩
 |dP l=>obtain⟨r,rfl,h⟩:=h;exact⟨r,rfl,h.ext a⟩
theorem RelH.muts(r:RelH K ι μ H):Muts ι μ.length H:=λn hn=>by
 obtain⟨u,e,h⟩:=r.obj n μ[n] (by simp[hn]);exact⟨u,e,h.mut⟩
theorem RelH.ext0(r:RelH K ι μ H):Ext ι μ.length H ι μ.length H:=Ext.refl r.muts
theorem RelH.laid(r:RelH K ι μ H)(o:HO)(hp:H p=none):Ext ι μ.length H ι μ.length (upd H p o)/\RelH K ι μ (upd H p o):=by
 have kp:∀q u,H q=some u->upd H p o q=some u:=λq u e=>by rw[A5 (B8 e hp)];exact e
 have a:Ext ι μ.length H ι μ.length (upd H p o):=⟨AAF _,λ_ _=>rfl,λn h1 h2=>absurd h1 (by omega),λq u e _=>kp q u e,r.muts,λn hn=>by
  obtain⟨u,e,h⟩:=r.muts n hn;exact⟨u,kp _ _ e,h⟩⟩
 refine⟨a,r.inj,λn o' e=>?_⟩;obtain⟨u,e1,h⟩:=r.obj n o' e;exact⟨u,kp _ _ e1,h.ext a⟩
theorem RelH.grown(r:RelH K ι μ H)(hp:H p=none)(h:ObjIs K ι μ.length H p m o):
  ∃ι',Ext ι μ.length H ι' (μ++[m]).length (upd H p o)/\RelH K ι' (μ++[m]) (upd H p o)/\ι' μ.length=p:=by
 have kp:∀q u,H q=some u->upd H p o q=some u:=λq u e=>by rw[A5 (B8 e hp)];exact e
 let ι':Nat->Addr:=λn=>if n=μ.length then p else ι n
 have e0:ι' μ.length=p:=if_pos rfl;have e1:∀n,n<μ.length->ι' n=ι n:=λn hn=>if_neg (by omega);have a:Ext ι μ.length H ι' (μ++[m]).length (upd H p o):=⟨by simp,e1,λn h1 h2=>by
   have:n=μ.length:=by simp at h2;omega
   rw[this,e0];exact hp,λq u e _=>kp q u e,r.muts,λn hn=>by
  obtain⟨u,e,h⟩:=r.muts n hn;exact⟨u,kp _ _ e,h⟩⟩
 refine⟨ι',a,⟨λi j hi hj e=>?_,λn o' e=>?_⟩,e0⟩
 ·simp at hi hj;have old:∀i,i<μ.length->ι' i≠p:=λi hi e=>by
   obtain⟨u,q,_⟩:=r.muts i hi;rw[←e1 i hi,e,hp] at q;cases q
  rcases Nat.lt_or_ge i μ.length with zi|zi<;>rcases Nat.lt_or_ge j μ.length with zj|zj
  ·rw[e1 i zi,e1 j zj] at e;exact r.inj i j zi zj e
  ·have:j=μ.length:=by omega
   subst this;rw[e0] at e;exact absurd e (old i zi)
  ·have:i=μ.length:=by omega
   subst this;rw[e0] at e;exact absurd e.symm (old j zj)
  ·omega
 ·rcases Nat.lt_or_ge n μ.length with z|z
  ·rw[AAT z] at e;obtain⟨u,q,hq⟩:=r.obj n o' e;exact⟨u,by rw[e1 n z];exact kp _ _ q,by rw[e1 n z];exact hq.ext a⟩
  ·have hn:n=μ.length:=by
    have:=(AAU.mp e).1;simp at this;omega
   subst hn;rw[AAS (AAF _),Nat.sub_self] at e;simp at e;subst e;exact⟨o,by rw[e0,BJ],by rw[e0];exact h.ext a⟩
theorem RelH.changed(r:RelH K ι μ H)(hn:n<μ.length)(h:ObjIs K ι μ.length H (ι n) m o):
  Ext ι μ.length H ι (μ.set n m).length (upd H (ι n) o)/\RelH K ι (μ.set n m) (upd H (ι n) o):=by
 have ne:∀i,i<μ.length->i≠n->ι i≠ι n:=λi hi hne e=>hne (r.inj i n hi hn e);have a:Ext ι μ.length H ι (μ.set n m).length (upd H (ι n) o):=⟨by simp,λ_ _=>rfl,λi h1 h2=>by simp at h2;omega,λq u e hq=>by rw[A5 (λz=>hq n hn z.symm)];exact e,r.muts,λi hi=>by
  by_cases z:i=n
  ·subst z;exact⟨o,BJ,h.mut⟩
  ·obtain⟨u,e,hu⟩:=r.muts i hi;exact⟨u,by rw[A5 (ne i hi z)];exact e,hu⟩⟩
 refine⟨a,λi j hi hj=>r.inj i j (by simpa using hi) (by simpa using hj),λi o' e=>?_⟩;by_cases z:i=n
 ·subst z;rw[List.getElem?_set_self hn] at e;cases e;exact⟨o,BJ,h.ext a⟩
 ·rw[AAn (Ne.symm z)] at e;have hi:i<μ.length:=(AAU.mp e).1;obtain⟨u,q,hq⟩:=r.obj i o' e;exact⟨u,by rw[A5 (ne i hi z)];exact q,hq.ext a⟩
structure RelS(K:KW)(ι:Nat->Addr)(k:Nat)(H:Hp)(τ:Sl)(σ:St):Prop where
 len:σ.length=τ.length
 get:∀(i:Nat) (d:D),τ[i]?=some (some d)->∃v,σ[i]?=some (some v)/\Is K ι k H d v
theorem RelS.ext(a:Ext ι k H ι' k' H')(r:RelS K ι k H τ σ):RelS K ι' k' H' τ σ:=⟨r.len,λi d e=>by
 obtain⟨v,e1,h⟩:=r.get i d e;exact⟨v,e1,h.ext a⟩⟩
theorem RelS.set(r:RelS K ι k H τ σ)(i:Nat)(h:Is K ι k H d v):RelS K ι k H (τ.set i (some d)) (σ.set i (some v)):=⟨by simp[r.len],λj e q=>by
 by_cases z:i=j
 ·subst z;have hi:i<τ.length:=by
   have:=(AAU.mp q).1;simpa using this
  rw[List.getElem?_set_self hi] at q;cases q;exact⟨v,List.getElem?_set_self (by rw[r.len];exact hi),h⟩
 ·rw[AAn z] at q;obtain⟨u,e1,hu⟩:=r.get j e q;exact⟨u,by rw[AAn z];exact e1,hu⟩⟩
end
end Mi
namespace Mi
open PySem L2
inductive Fl where
 |next|brk|cont|rt (d:D)
abbrev Aft(K:KW)(ι:Nat->Addr)(μ:Mh)(H:Hp)(μ':Mh)(φ:(Nat->Addr)->Hp->Prop):Prop:=
 ∀ι' H',Ext ι μ.length H ι' μ'.length H'->RelH K ι' μ' H'->φ ι' H'
noncomputable def tE(K:KW)(m:Sl->M D):TE:=λσ H Q=>∃ι μ τ d μ',RelH K ι μ H/\RelS K ι μ.length H τ σ/\m τ μ=some (d,μ') /\
 Aft K ι μ H μ' λι' H'=>∀v,Is K ι' μ'.length H' d v->Q v H'
noncomputable def tT(K:KW)(m:Sl->M Bool):TT:=λσ H Q=>∃ι μ τ b μ',RelH K ι μ H/\RelS K ι μ.length H τ σ/\m τ μ=some (b,μ') /\
 Aft K ι μ H μ' λ_ H'=>Q b H'
noncomputable def tL(K:KW)(m:Sl->M (List D)):TA:=λσ H Q=>∃ι μ τ ds μ',RelH K ι μ H/\RelS K ι μ.length H τ σ/\m τ μ=some (ds,μ') /\
 Aft K ι μ H μ' λι' H'=>∀vs,IsL K ι' μ'.length H' ds vs->Q vs H'
noncomputable def FlP(K:KW)(Dn:Uc)(ι':Nat->Addr)(k:Nat)(H':Hp)(τ':Sl)(σ':St):Fl->Prop
 | .next=>Dn.nx σ' H'
 | .brk=>Dn.bk σ' H'
 | .cont=>Dn.ct σ' H'
 | .rt d=>∀v,Is K ι' k H' d v->Dn.rt v H'
noncomputable def tSt(K:KW)(m:Sl->M (Fl×Sl)):TS:=λDn σ H=>∃ι μ τ f τ' μ',RelH K ι μ H/\RelS K ι μ.length H τ σ/\m τ μ=some ((f,τ'),μ') /\
 Aft K ι μ H μ' λι' H'=>∀σ',RelS K ι' μ'.length H' τ' σ'->FlP K Dn ι' μ'.length H' τ' σ' f
structure RE(X:Cx)(e:Expr)(m:Sl->M D):Prop where
 pe:PE X e (tE X.kw m)
structure RT(X:Cx)(e:Expr)(m:Sl->M Bool):Prop where
 pe:PT X e (tT X.kw m)
structure RW(X:Cx)(e:Expr)(m:Sl->M Bool):Prop where
 pe:PW X e (tT X.kw m)
structure RA(X:Cx)(es:List Expr)(m:Sl->M (List D)):Prop where
 pe:PA X es (tL X.kw m)
structure RS(X:Cx)(st:Stmt)(m:Sl->M (Fl×Sl)):Prop where
 pe:PS X st (tSt X.kw m)
structure RSs(X:Cx)(st:List Stmt)(m:Sl->M (Fl×Sl)):Prop where
 pe:PSs X st (tSt X.kw m)
section
variable{X:Cx}{e a b c:Expr}{es:List Expr}{pos:Pos}
theorem PE.wk{t t':TE}(h:PE X e t)(w:∀σ H Q,t' σ H Q->t σ H Q):PE X e t':=λpins s σ H Q I q=>h pins s σ H Q I (w σ H Q q)
theorem RE.wk{m:Sl->M D}{t:TE}(h:PE X e t)(w:∀σ H Q,tE X.kw m σ H Q->t σ H Q):RE X e m:=⟨PE.wk h w⟩
theorem PT.wk{t t':TT}(h:PT X e t)(w:∀σ H Q,t' σ H Q->t σ H Q):PT X e t':=λpins s σ H Q I q=>h pins s σ H Q I (w σ H Q q)
theorem RT.wk{m:Sl->M Bool}{t:TT}(h:PT X e t)(w:∀σ H Q,tT X.kw m σ H Q->t σ H Q):RT X e m:=⟨PT.wk h w⟩
theorem PW.wk{t t':TT}(h:PW X e t)(w:∀σ H Q,t' σ H Q->t σ H Q):PW X e t':=λwh pins s σ H Q I q=>h wh pins s σ H Q I (w σ H Q q)
theorem RW.wk{m:Sl->M Bool}{t:TT}(h:PW X e t)(w:∀σ H Q,tT X.kw m σ H Q->t σ H Q):RW X e m:=⟨PW.wk h w⟩
theorem PA.wk{t t':TA}(h:PA X es t)(w:∀σ H Q,t' σ H Q->t σ H Q):PA X es t':=λp pins s σ H Q I q=>h p pins s σ H Q I (w σ H Q q)
theorem RA.wk{m:Sl->M (List D)}{t:TA}(h:PA X es t)(w:∀σ H Q,tL X.kw m σ H Q->t σ H Q):RA X es m:=⟨PA.wk h w⟩
theorem PS.wk{st:Stmt}{t t':TS}(h:PS X st t)(w:∀D σ H,t' D σ H->t D σ H):PS X st t':=λpins s σ H D I q=>h pins s σ H D I (w D σ H q)
theorem RS.wk{m:Sl->M (Fl×Sl)}{st:Stmt}{t:TS}(h:PS X st t)(w:∀D σ H,tSt X.kw m D σ H->t D σ H):RS X st m:=⟨PS.wk h w⟩
theorem PSs.wk{st:List Stmt}{t t':TS}(h:PSs X st t)(w:∀D σ H,t' D σ H->t D σ H):PSs X st t':=λpins s σ H D I q=>h pins s σ H D I (w D σ H q)
theorem RSs.wk{m:Sl->M (Fl×Sl)}{st:List Stmt}{t:TS}(h:PSs X st t)(w:∀D σ H,tSt X.kw m D σ H->t D σ H):RSs X st m:=⟨PSs.wk h w⟩
theorem OpR.wk{f:Value->Value->Sem Value}{r r':R2}(h:OpR X f r)(w:∀x y H Q,r' x y H Q->r x y H Q):OpR X f r':=λpins s σ H x y v u Q I rx ry q=>h pins s σ H x y v u Q I rx ry (w x y H Q q)
noncomputable def En:Expr->Bool
 | .Starred _ _=>true
 |_=>false
theorem As{e:Expr}{es:List Expr}{env:Env}(h:En e=false):starEach (e::es) env=(false,eval e env)::starEach es env:=by
 cases e<;>first|rfl|cases h
theorem BU{pos:Pos}{env:Env}:∀{es:List Expr},(es.all λe=>!En e)=true->(backTo pos (starEach es env)).any (·.1)=false
 |[],_=>rfl
 |e::es,h=>by
  rw[List.all_cons,Bool.and_eq_true] at h;have h1:En e=false:=by simpa using h.1
  have ih:=BU (pos:=pos) (env:=env) h.2;rw[As h1];unfold backTo at ih ⊢;simpa using ih
noncomputable def Ag(i:Nat):Sl->M D:=λτ μ=>match τ[i]? with
 |some (some d)=>some (d,μ)
 |_=>none
noncomputable def mC(d:D):Sl->M D:=λ_=>ret d
theorem AC(i:Nat){x:Str}(hN:X.N[i]?=some x:=by rfl)(hv:Vis X.env.scope x:=by first|exact Or.inl rfl|exact Or.inr (Or.inl rfl)|exact Or.inr (Or.inr rfl))(hd:(x==("__debug__" : Str))=false:=by decide)
  (hcd:(x==("__classdict__" : Str))=false:=by decide):RE X (.Name x pos) (Ag i):=RE.wk (X4 hN hv hd hcd) λσ H Q h=>by
 obtain⟨ι,μ,τ,d,μ',R,S,e,q⟩:=h;unfold Ag at e;split at e
 ·rename_i d' ed;cases e;obtain⟨v,e1,h1⟩:=S.get i _ ed;exact⟨v,e1,q ι H R.ext0 R v h1⟩
 ·cases e
theorem QP{t:TE}{d:D}{v:V}(h:PE X e (tC v))(hd:∀ι k H,Is X.kw ι k H d v):RE X e (mC d):=RE.wk h λσ H Q h=>by
 obtain⟨ι,μ,τ,d,μ',R,S,e,q⟩:=h;cases e;exact q ι H R.ext0 R v (hd _ _ _)
theorem AG{i j}:RE X (.Constant (.int i) j pos) (mC (.int i)):=QP (t:=λ_ _ _=>True) YB λ_ _ _=>by unfold Is;rfl
theorem O4{i j}:RE X (.Constant (.bool i) j pos) (mC (.bl i)):=QP (t:=λ_ _ _=>True) Zw λ_ _ _=>by unfold Is;rfl
theorem An{j}:RE X (.Constant .none j pos) (mC .non):=QP (t:=λ_ _ _=>True) YA λ_ _ _=>by unfold Is;rfl
theorem AK{i j}:RE X (.Constant (.str i) j pos) (mC (.str i)):=QP (t:=λ_ _ _=>True) X6 λ_ _ _=>by unfold Is;rfl
theorem VJ{x:Str}{v:V}{u:Value}{d:D}(hm:X.mg x=some u)(r:RelV v u)(hd:∀ι k H,Is X.kw ι k H d v)(hg:Gl X x:=by rfl)(hdb:(x==("__debug__" : Str))=false:=by decide):RE X (.Name x pos) (mC d):=
 QP (t:=λ_ _ _=>True) (O9 hg hm r hdb) hd
noncomputable def mOp(g:D->D->M D)(ma mb:Sl->M D):Sl->M D:=λτ=>bnd (ma τ) λx=>bnd (mb τ) λy=>g x y
noncomputable def mUn(g:D->M D)(ma:Sl->M D):Sl->M D:=λτ=>bnd (ma τ) g
noncomputable def rM(K:KW)(g:D->D->M D):R2:=λx y H Q=>∃ι μ a b d μ',RelH K ι μ H/\Is K ι μ.length H a x/\Is K ι μ.length H b y/\g a b μ=some (d,μ') /\
 Aft K ι μ H μ' λι' H'=>∀v,Is K ι' μ'.length H' d v->Q v H'
noncomputable def rM1(K:KW)(g:D->M D):V->Hp->VK->Prop:=λx H Q=>∃ι μ a d μ',RelH K ι μ H/\Is K ι μ.length H a x/\g a μ=some (d,μ') /\
 Aft K ι μ H μ' λι' H'=>∀v,Is K ι' μ'.length H' d v->Q v H'
noncomputable def rMA(K:KW)(g:List D->M D):List V->Hp->VK->Prop:=λxs H Q=>∃ι μ as d μ',RelH K ι μ H/\IsL K ι μ.length H as xs/\g as μ=some (d,μ') /\
 Aft K ι μ H μ' λι' H'=>∀v,Is K ι' μ'.length H' d v->Q v H'
theorem Og{K:KW}{g:D->D->M D}{ma mb:Sl->M D}{σ:St}{H:Hp}{Q:VK}(h:tE K (mOp g ma mb) σ H Q):tOp (rM K g) (tE K ma) (tE K mb) σ H Q:=by
 obtain⟨ι,μ,τ,d,μ',R,S,e,q⟩:=h;obtain⟨x,μ1,e1,e⟩:=AL e;obtain⟨y,μ2,e2,e3⟩:=AL e;refine⟨ι,μ,τ,x,μ1,R,S,e1,λι1 H1 E1 R1 v1 i1=>?_⟩;refine⟨ι1,μ1,τ,y,μ2,R1,S.ext E1,e2,λι2 H2 E2 R2 v2 i2=>?_⟩;exact⟨ι2,μ2,x,y,d,μ',R2,i1.ext E2,i2,e3,λι3 H3 E3 R3 v3 i3=>q ι3 H3 ((E1.trans E2).trans E3) R3 v3 i3⟩
theorem ZX{K:KW}{g:D->M D}{ma:Sl->M D}{σ:St}{H:Hp}{Q:VK}(h:tE K (mUn g ma) σ H Q):tUn (rM1 K g) (tE K ma) σ H Q:=by
 obtain⟨ι,μ,τ,d,μ',R,S,e,q⟩:=h;obtain⟨x,μ1,e1,e⟩:=AL e;refine⟨ι,μ,τ,x,μ1,R,S,e1,λι1 H1 E1 R1 v1 i1=>?_⟩;exact⟨ι1,μ1,x,d,μ',R1,i1,e,λι3 H3 E3 R3 v3 i3=>q ι3 H3 (E1.trans E3) R3 v3 i3⟩
theorem Ah{op:Operator}{g:D->D->M D}{ma mb:Sl->M D}(ho:OpR X (binaryOp op) (rM X.kw g))(ha:RE X a ma)(hb:RE X b mb):RE X (.BinOp a op b pos) (mOp g ma mb):=RE.wk (Zt ho ha.pe hb.pe) λ_ _ _ h=>Og h
theorem Wf{op:UnaryOp}{g:D->M D}{ma:Sl->M D}(ho:UnR X (unaryOp op) (rM1 X.kw g))(ha:RE X a ma):RE X (.UnaryOp op a pos) (mUn g ma):=RE.wk (Zr ho ha.pe) λ_ _ _ h=>ZX h
theorem EZ{op:CmpOp}{g:D->D->M D}{ma mb:Sl->M D}(ho:OpR X (compareOp op) (rM X.kw g))(ha:RE X a ma)(hb:RE X b mb)(hm:behindInMarks op b=false:=by first|exact TX _|rfl):RE X (.Compare a [op] [b] pos) (mOp g ma mb):=
 RE.wk (Vi ho ha.pe hb.pe hm) λ_ _ _ h=>Og h
theorem AR{g:D->D->M D}{ma mb:Sl->M D}(ho:IxR X (rM X.kw g))(ha:RE X a ma)(hb:RE X b mb)(hs:Ps b:=by exact λ_ _=>rfl):RE X (.Subscript a b pos) (mOp g ma mb):=RE.wk (Zu ho ha.pe hb.pe hs) λ_ _ _ h=>Og h
noncomputable def asB:D->M Bool
 | .bl b=>ret b
 |_=>BK
noncomputable def BZ(m:Sl->M D):Sl->M Bool:=λτ=>bnd (m τ) asB
theorem Od{K:KW}{m:Sl->M D}{σ:St}{H:Hp}{Q:Bool->Hp->Prop}(h:tT K (BZ m) σ H Q):tE K m σ H λx H'=>∃k,x=.bl k/\Q k H':=by
 obtain⟨ι,μ,τ,b,μ',R,S,e,q⟩:=h;obtain⟨x,μ1,e1,e⟩:=AL e;refine⟨ι,μ,τ,x,μ1,R,S,e1,λι1 H1 E1 R1 v1 i1=>?_⟩;cases x with
 |bl k=>
  cases e;unfold Is at i1;exact⟨b,i1,q ι1 H1 E1 R1⟩
 |_=>cases e
theorem AY{op:CmpOp}{g:D->D->M D}{ma mb:Sl->M D}(ho:OpR X (compareOp op) (rM X.kw g))(ha:RE X a ma)(hb:RE X b mb)(hm:behindInMarks op b=false:=by first|exact TX _|rfl):RT X (.Compare a [op] [b] pos) (BZ (mOp g ma mb)):=
 RT.wk (VS ho ha.pe hb.pe hm) λσ H Q h=>Og (Q:=λx H'=>∃k,x=.bl k/\Q k H') (Od h)
theorem ID{m:Sl->M D}(h:RE X e m)(he:∀whole,isTrue e X.env whole=(do let v ←whole;standAt e.pos;holding [v] (truthy v)):=by intro _;rfl):RT X e (BZ m):=
 RT.wk (Xv h.pe he) λ_ _ _ q=>Od q
noncomputable def K4(ma mb:Sl->M Bool):Sl->M Bool:=λτ=>bnd (ma τ) λx=>if x=true then mb τ else ret false
noncomputable def mOr(ma mb:Sl->M Bool):Sl->M Bool:=λτ=>bnd (ma τ) λx=>if x=true then ret true else mb τ
noncomputable def YU(ma:Sl->M Bool):Sl->M Bool:=λτ=>bnd (ma τ) λx=>ret (!x)
theorem ST{ma:Sl->M Bool}(ha:RT X a ma):RT X (.UnaryOp .Not a pos) (YU ma):=RT.wk (Xw ha.pe) λσ H Q h=>by
 obtain⟨ι,μ,τ,b,μ',R,S,e,q⟩:=h;obtain⟨x,μ1,e1,e⟩:=AL e;cases e;exact⟨ι,μ,τ,x,_,R,S,e1,q⟩
theorem Do{ma:Sl->M Bool}(ha:RT X a ma):RW X (.BoolOp .And [a] pos) ma:=⟨VQ ha.pe⟩
theorem Kn{ma:Sl->M Bool}(ha:RT X a ma):RW X (.BoolOp .Or [a] pos) ma:=⟨Xs ha.pe⟩
theorem Fc{BG:List Expr}{ma mb:Sl->M Bool}(ha:RT X a ma)(hb:RW X (.BoolOp .And (b::BG) pos) mb):RW X (.BoolOp .And (a::b::BG) pos) (K4 ma mb):=RW.wk (Xu ha.pe hb.pe) λσ H Q h=>by
 obtain⟨ι,μ,τ,z,μ',R,S,e,q⟩:=h;obtain⟨x,μ1,e1,e⟩:=AL e;refine⟨ι,μ,τ,x,μ1,R,S,e1,λι1 H1 E1 R1=>?_⟩;cases x with
 |true=>exact⟨ι1,μ1,τ,z,μ',R1,S.ext E1,e,λι2 H2 E2 R2=>q ι2 H2 (E1.trans E2) R2⟩
 |false=>cases e;exact q ι1 H1 E1 R1
theorem Lw{BG:List Expr}{ma mb:Sl->M Bool}(ha:RT X a ma)(hb:RW X (.BoolOp .Or (b::BG) pos) mb):RW X (.BoolOp .Or (a::b::BG) pos) (mOr ma mb):=RW.wk (Zo ha.pe hb.pe) λσ H Q h=>by
 obtain⟨ι,μ,τ,z,μ',R,S,e,q⟩:=h;obtain⟨x,μ1,e1,e⟩:=AL e;refine⟨ι,μ,τ,x,μ1,R,S,e1,λι1 H1 E1 R1=>?_⟩;cases x with
 |true=>cases e;exact q ι1 H1 E1 R1
 |false=>exact⟨ι1,μ1,τ,z,μ',R1,S.ext E1,e,λι2 H2 E2 R2=>q ι2 H2 (E1.trans E2) R2⟩
theorem RW.rt{m:Sl->M Bool}(h:RW X e m):RT X e m:=⟨h.pe.pt⟩
noncomputable def mIf(mc:Sl->M Bool)(ma mb:Sl->M D):Sl->M D:=λτ=>bnd (mc τ) λx=>if x=true then ma τ else mb τ
theorem Cq{mc:Sl->M Bool}{ma mb:Sl->M D}(hc:RT X c mc)(ha:RE X a ma)(hb:RE X b mb):RE X (.IfExp c a b pos) (mIf mc ma mb):=RE.wk (TC hc.pe ha.pe hb.pe) λσ H Q h=>by
 obtain⟨ι,μ,τ,z,μ',R,S,e,q⟩:=h;obtain⟨x,μ1,e1,e⟩:=AL e;refine⟨ι,μ,τ,x,μ1,R,S,e1,λι1 H1 E1 R1=>?_⟩;cases x with
 |true=>exact⟨ι1,μ1,τ,z,μ',R1,S.ext E1,e,λι2 H2 E2 R2=>q ι2 H2 (E1.trans E2) R2⟩
 |false=>exact⟨ι1,μ1,τ,z,μ',R1,S.ext E1,e,λι2 H2 E2 R2=>q ι2 H2 (E1.trans E2) R2⟩
noncomputable def HI(ma mb:Sl->M D):Sl->M D:=λτ=>bnd (ma τ) λx=>bnd (asB x) λc=>if c=true then mb τ else ret (.bl false)
noncomputable def Tc(ma mb:Sl->M D):Sl->M D:=λτ=>bnd (ma τ) λx=>bnd (asB x) λc=>if c=true then ret (.bl true) else mb τ
noncomputable def Wr(ma:Sl->M D):Sl->M D:=λτ=>bnd (ma τ) λx=>bnd (asB x) λc=>ret (.bl (!c))
theorem GP{x:D}{μ μ1:Mh}{c:Bool}(h:asB x μ=some (c,μ1)):x=.bl c/\μ1=μ:=by
 cases x with
 |bl k=>cases h;exact⟨rfl,rfl⟩
 |_=>cases h
theorem Kq{op}{m:Sl->M D}(h:RE X a m):RE X (.BoolOp op [a] pos) m:=⟨X8 h.pe⟩
theorem Kt{BG:List Expr}{ma mb:Sl->M D}(ha:RE X a ma)(hb:RE X (.BoolOp .And (b::BG) pos) mb):RE X (.BoolOp .And (a::b::BG) pos) (HI ma mb):=RE.wk (YE ha.pe hb.pe) λσ H Q h=>by
 obtain⟨ι,μ,τ,z,μ',R,S,e,q⟩:=h;obtain⟨x,μ1,e1,e⟩:=AL e;obtain⟨c,μ2,e2,e⟩:=AL e;obtain⟨rfl,rfl⟩:=GP e2;refine⟨ι,μ,τ,_,μ2,R,S,e1,λι1 H1 E1 R1 v1 i1=>⟨c,by unfold Is at i1;exact i1,?_⟩⟩;cases c with
 |true=>exact⟨ι1,μ2,τ,z,μ',R1,S.ext E1,e,λι2 H2 E2 R2=>q ι2 H2 (E1.trans E2) R2⟩
 |false=>cases e;exact q ι1 H1 E1 R1 _ (by unfold Is;rfl)
theorem Zh{BG:List Expr}{ma mb:Sl->M D}(ha:RE X a ma)(hb:RE X (.BoolOp .Or (b::BG) pos) mb):RE X (.BoolOp .Or (a::b::BG) pos) (Tc ma mb):=RE.wk (Zs ha.pe hb.pe) λσ H Q h=>by
 obtain⟨ι,μ,τ,z,μ',R,S,e,q⟩:=h;obtain⟨x,μ1,e1,e⟩:=AL e;obtain⟨c,μ2,e2,e⟩:=AL e;obtain⟨rfl,rfl⟩:=GP e2;refine⟨ι,μ,τ,_,μ2,R,S,e1,λι1 H1 E1 R1 v1 i1=>⟨c,by unfold Is at i1;exact i1,?_⟩⟩;cases c with
 |true=>cases e;exact q ι1 H1 E1 R1 _ (by unfold Is;rfl)
 |false=>exact⟨ι1,μ2,τ,z,μ',R1,S.ext E1,e,λι2 H2 E2 R2=>q ι2 H2 (E1.trans E2) R2⟩
theorem Xr{ma:Sl->M D}(ha:RE X a ma):RE X (.UnaryOp .Not a pos) (Wr ma):=RE.wk (X9 ha.pe) λσ H Q h=>by
 obtain⟨ι,μ,τ,z,μ',R,S,e,q⟩:=h;obtain⟨x,μ1,e1,e⟩:=AL e;obtain⟨c,μ2,e2,e⟩:=AL e;obtain⟨rfl,rfl⟩:=GP e2;cases e;exact⟨ι,μ,τ,_,_,R,S,e1,λι1 H1 E1 R1 v1 i1=>⟨c,by unfold Is at i1;exact i1,q ι1 H1 E1 R1 _ (by unfold Is;rfl)⟩⟩
noncomputable def K3(g g':D->D->M D)(ma mb mc:Sl->M D):Sl->M D:=λτ=>bnd (ma τ) λx=>bnd (mb τ) λy=>bnd (g x y) λz=>bnd (asB z) λk=>if k=true then bnd (mc τ) λw=>g' y w else ret (.bl false)
noncomputable def AI:Sl->M (List D):=λ_=>ret []
noncomputable def BM(m:Sl->M D)(r:Sl->M (List D)):Sl->M (List D):=λτ=>bnd (m τ) λx=>bnd (r τ) λxs=>ret (x::xs)
theorem AE:RA X [] AI:=RA.wk Fe λσ H Q h=>by
 obtain⟨ι,μ,τ,z,μ',R,S,e,q⟩:=h;cases e;exact q ι H R.ext0 R [] .nil
theorem AA{m:Sl->M D}{r:Sl->M (List D)}(h:RE X e m)(hr:RA X es r)(hs:starEach (e::es) X.env=(false,eval e X.env)::starEach es X.env:=by exact As rfl):RA X (e::es) (BM m r):=RA.wk (Du h.pe hr.pe hs) λσ H Q h=>by
 obtain⟨ι,μ,τ,z,μ',R,S,e,q⟩:=h;obtain⟨x,μ1,e1,e⟩:=AL e;obtain⟨xs,μ2,e2,e⟩:=AL e;cases e;exact⟨ι,μ,τ,x,μ1,R,S,e1,λι1 H1 E1 R1 v1 i1=>⟨ι1,μ1,τ,xs,_,R1,S.ext E1,e2,λι2 H2 E2 R2 vs i2=>q ι2 H2 (E1.trans E2) R2 _ (.cons (i1.ext E2) i2)⟩⟩
noncomputable def lim(n:Nat):M Unit:=λμ=>if n<=sizeLine then some ((),μ) else none
theorem C6{n:Nat}{μ μ1:Mh}{u:Unit}(h:lim n μ=some (u,μ1)):n<=sizeLine/\μ1=μ:=by
 unfold lim at h;split at h
 ·rename_i hn;cases h;exact⟨hn,rfl⟩
 ·cases h
theorem Tf{n:Nat}(h:n<=sizeLine)(μ:Mh):lim n μ=some ((),μ):=if_pos h
noncomputable def AX(ds:List D):M D:=bnd (lim ds.length) λ_=>ret (.tup ds)
noncomputable def Ao(ds:List D):M D:=bnd (lim ds.length) λ_=>ret (.lst ds)
noncomputable def FC(ds:List D):M D:=bnd (lim ds.length) λ_=>λμ=>some (.ref μ.length,μ++[.lst ds])
noncomputable def BS(f:List D->M D)(m:Sl->M (List D)):Sl->M D:=λτ=>bnd (m τ) f
theorem PF{K:KW}{ι:Nat->Addr}{μ μ':Mh}{H:Hp}{ds:List D}{vs:List V}{d:D}{Q:VK}(R:RelH K ι μ H)(i:IsL K ι μ.length H ds vs)(e:AX ds μ=some (d,μ'))(q:Aft K ι μ H μ' λι' H'=>∀v,Is K ι' μ'.length H' d v->Q v H'):
  vs.length<=sizeLine/\∀p,H p=none->Q (.ref p) (upd H p (.tup vs)):=by
 obtain⟨u,μ1,e1,e2⟩:=AL e;clear e;obtain⟨hl,e3⟩:=C6 e1;cases e2;cases e3;refine⟨by rw[i.length];exact hl,λp hp=>?_⟩;obtain⟨E1,R1⟩:=R.laid (.tup vs) hp;exact q ι _ E1 R1 _ (by unfold Is;exact⟨p,vs,rfl,SqT.of BJ,i.ext E1⟩)
theorem CY{K:KW}{ι:Nat->Addr}{μ μ':Mh}{H:Hp}{ds:List D}{vs:List V}{d:D}{Q:VK}(R:RelH K ι μ H)(i:IsL K ι μ.length H ds vs)(e:Ao ds μ=some (d,μ'))(q:Aft K ι μ H μ' λι' H'=>∀v,Is K ι' μ'.length H' d v->Q v H'):
  vs.length<=sizeLine/\∀p,H p=none->Q (.ref p) (upd H p (.lst vs)):=by
 obtain⟨u,μ1,e1,e2⟩:=AL e;clear e;obtain⟨hl,e3⟩:=C6 e1;cases e2;cases e3;refine⟨by rw[i.length];exact hl,λp hp=>?_⟩;obtain⟨E1,R1⟩:=R.laid (.lst vs) hp;have ho:∀n,n<μ.length->ι n≠p:=λn hn z=>by
  obtain⟨o,e,_⟩:=R.muts n hn;rw[z,hp] at e;cases e
 exact q ι _ E1 R1 _ (by unfold Is;exact⟨p,vs,rfl,BJ,ho,i.ext E1⟩)
theorem PH{K:KW}{ι:Nat->Addr}{μ μ':Mh}{H:Hp}{ds:List D}{vs:List V}{d:D}{Q:VK}(R:RelH K ι μ H)(i:IsL K ι μ.length H ds vs)(e:FC ds μ=some (d,μ'))(q:Aft K ι μ H μ' λι' H'=>∀v,Is K ι' μ'.length H' d v->Q v H'):
  vs.length<=sizeLine/\∀p,H p=none->Q (.ref p) (upd H p (.lst vs)):=by
 obtain⟨u,μ1,e1,e2⟩:=AL e;clear e;obtain⟨hl,e3⟩:=C6 e1;cases e2;cases e3;refine⟨by rw[i.length];exact hl,λp hp=>?_⟩;obtain⟨ι',E1,R1,e0⟩:=R.grown (m:=.lst ds) hp ⟨vs,rfl,i⟩;exact q ι' _ E1 R1 _ (by unfold Is;exact⟨by simp,by rw[e0]⟩)
theorem Dk{K:KW}{f:List D->M D}{m:Sl->M (List D)}{σ:St}{H:Hp}{Q:VK}{R:List V->Hp->Prop}(h:tE K (BS f m) σ H Q)
  (hf:∀ι μ μ' H ds vs d,RelH K ι μ H->IsL K ι μ.length H ds vs->f ds μ=some (d,μ')->(Aft K ι μ H μ' λι' H'=>∀v,Is K ι' μ'.length H' d v->Q v H')->R vs H):tL K m σ H R:=by
 obtain⟨ι,μ,τ,z,μ',S1,S,e,q⟩:=h;obtain⟨ds,μ1,e1,e⟩:=AL e;exact⟨ι,μ,τ,ds,μ1,S1,S,e1,λι1 H1 E1 R1 vs iv=>hf ι1 μ1 μ' H1 ds vs z R1 iv e λι2 H2 E2 R2=>q ι2 H2 (E1.trans E2) R2⟩
theorem AM{x1}{m:Sl->M (List D)}(h:RA X es m):RE X (.Tuple es x1 pos) (BS AX m):=RE.wk (X5 h.pe) λ_ _ _ q=>Dk q λ_ _ _ _ _ _ _ R i e q=>PF R i e q
theorem Ac{m:Sl->M (List D)}(h:RA X es m):RE X (.List es pos) (BS Ao m):=RE.wk (TB h.pe) λ_ _ _ q=>Dk q λ_ _ _ _ _ _ _ R i e q=>CY R i e q
theorem Cv{m:Sl->M (List D)}(h:RA X es m):RE X (.List es pos) (BS FC m):=RE.wk (TB h.pe) λ_ _ _ q=>Dk q λ_ _ _ _ _ _ _ R i e q=>PH R i e q
theorem BE{id:String}{x:Str}{g:List D->M D}{m:Sl->M (List D)}{p:Pos}(hc:Bh X (.builtin id) (rMA X.kw g))(hm:X.mg x=none)(hv:bootBuiltins x=some (.builtin id))(ha:RA X (e::es) m)(hg:Gl X x:=by rfl)(hn:x ≠ "__name__" := by decide)(hdb:(x==("__debug__" : Str))=false:=by decide)
  (he:starEach (e::es) X.env=(false,eval e X.env)::starEach es X.env:=by exact As rfl) (hpl:(backTo pos (starEach es X.env)).any (·.1)=false:=by exact BU rfl):RE X (.Call (.Name x p) (e::es) [] pos) (BS g m):=
 RE.wk (IJ hc hg hm hv ha.pe hn hdb he hpl) λ_ _ _ q=>Dk q λι μ μ' H ds vs d R i e q=>⟨ι,μ,ds,d,μ',R,i,e,q⟩
theorem Bc{T:String}{x:Str}{g:List D->M D}{m:Sl->M (List D)}{p:Pos}(hc:Bh X (.type T) (rMA X.kw g))(hm:X.mg x=none)(hv:bootBuiltins x=some (.type T))(ha:RA X (e::es) m)(hg:Gl X x:=by rfl)(hn:x ≠ "__name__" := by decide)(hdb:(x==("__debug__" : Str))=false:=by decide)
  (he:starEach (e::es) X.env=(false,eval e X.env)::starEach es X.env:=by exact As rfl) (hpl:(backTo pos (starEach es X.env)).any (·.1)=false:=by exact BU rfl):RE X (.Call (.Name x p) (e::es) [] pos) (BS g m):=
 RE.wk (DX hc hg hm hv ha.pe hn hdb he hpl) λ_ _ _ q=>Dk q λι μ μ' H ds vs d R i e q=>⟨ι,μ,ds,d,μ',R,i,e,q⟩
noncomputable def spM(K:KW)(n:Nat)(φ:List D->M D):Sp:=λvs H Q _=>vs.length=n/\rMA K φ vs H Q
theorem VN{n k:Nat}{φ:List D->M D}{f:Addr}{fd:FuncData}{ps:List Str}{x:Str}{m:Sl->M (List D)}{p:Pos}(F:FnOk X.prog X.w X.kw X.mg X.base CX0 k f fd ps (spM X.kw n φ))(hr:Room k X.A)(hm:X.mg x=some (.ref f))(hk:PySem.W.keepIn X.kw (.ref f)=true)(hb:Binds X.kw fd ps [])
  (hφ:∀ds μ r,φ ds μ=some r->ds.length=n) (ha:RA X (e::es) m) (hg:Gl X x:=by rfl) (hdb:(x==("__debug__" : Str))=false:=by decide) (he:starEach (e::es) X.env=(false,eval e X.env)::starEach es X.env:=by exact As rfl) (hpl:(backTo pos (starEach es X.env)).any (·.1)=false:=by exact BU rfl) :
  RE X (.Call (.Name x p) (e::es) [] pos) (BS φ m):=
 RE.wk (Vj F hr hg hm hk hb .nil TK ha.pe hdb he hpl) λ_ _ _ q=>Dk q λι μ μ' H ds vs d R i e q=>by
  rw[AAa];exact⟨by rw[i.length];exact hφ ds μ _ e,ι,μ,ds,d,μ',R,i,e,q⟩
end
section
variable{X:Cx}{e a c tg iter:Expr}{es:List Expr}{pos:Pos}{st:Stmt}{BG body:List Stmt}
noncomputable def Ax:Sl->M (Fl×Sl):=λτ=>ret (.next,τ)
noncomputable def BV(m1 m2:Sl->M (Fl×Sl)):Sl->M (Fl×Sl):=λτ=>bnd (m1 τ) λr=>match r.1 with
 | .next=>m2 r.2
 |f=>ret (f,r.2)
theorem Ad:RSs X [] Ax:=RSs.wk VU λDn σ H h=>by
 obtain⟨ι,μ,τ,f,τ',μ',R,S,e,q⟩:=h;cases e;exact q ι H R.ext0 R σ S
theorem AH(h1:RS X st m1)(h2:RSs X BG m2):RSs X (st::BG) (BV m1 m2):=RSs.wk (Sr h1.pe h2.pe) λDn σ H h=>by
 obtain⟨ι,μ,τ,f,τ',μ',R,S,e,q⟩:=h;obtain⟨⟨f1,τ1⟩,μ1,e1,e⟩:=AL e;refine⟨ι,μ,τ,f1,τ1,μ1,R,S,e1,λι1 H1 E1 R1 σ1 S1=>?_⟩;cases f1 with
 |next=>exact⟨ι1,μ1,τ1,f,τ',μ',R1,S1,e,λι2 H2 E2 R2=>q ι2 H2 (E1.trans E2) R2⟩
 |brk=>cases e;exact q ι1 H1 E1 R1 σ1 S1
 |cont=>cases e;exact q ι1 H1 E1 R1 σ1 S1
 |rt d=>cases e;exact q ι1 H1 E1 R1 σ1 S1
theorem AO(h:RS X st m):RSs X [st] m:=⟨VT h.pe⟩
noncomputable def A7(m:Sl->M D):Sl->M (Fl×Sl):=λτ=>bnd (m τ) λ_=>ret (.next,τ)
theorem Ap(h:RE X e m)(hs:swapsWith e none pos.line X.env=pure false:=by rfl):RS X (.Expr e pos) (A7 m):=RS.wk (VW h.pe hs) λDn σ H h=>by
 obtain⟨ι,μ,τ,f,τ',μ',R,S,e,q⟩:=h;obtain⟨x,μ1,e1,e⟩:=AL e;cases e;exact⟨ι,μ,_,x,_,R,S,e1,λι1 H1 E1 R1 v i1=>q ι1 H1 E1 R1 σ (S.ext E1)⟩
noncomputable def DL(m:Sl->M D):Sl->M (Fl×Sl):=λτ=>bnd (m τ) λd=>ret (.rt d,τ)
theorem AU(h:RE X e m):RS X (.Return (some e) pos) (DL m):=RS.wk (Xy h.pe) λDn σ H h=>by
 obtain⟨ι,μ,τ,f,τ',μ',R,S,e,q⟩:=h;obtain⟨x,μ1,e1,e⟩:=AL e;cases e;exact⟨ι,μ,_,x,_,R,S,e1,λι1 H1 E1 R1 v i1=>q ι1 H1 E1 R1 σ (S.ext E1) v i1⟩
noncomputable def sIf(mc:Sl->M Bool)(m1 m2:Sl->M (Fl×Sl)):Sl->M (Fl×Sl):=λτ=>bnd (mc τ) λx=>if x=true then m1 τ else m2 τ
theorem Ar(hc:RT X c mc)(h1:RSs X body m1)(h2:RSs X BG m2):RS X (.If c body BG pos) (sIf mc m1 m2):=RS.wk (Zq hc.pe h1.pe h2.pe) λDn σ H h=>by
 obtain⟨ι,μ,τ,f,τ',μ',R,S,e,q⟩:=h;obtain⟨x,μ1,e1,e⟩:=AL e;refine⟨ι,μ,τ,x,μ1,R,S,e1,λι1 H1 E1 R1=>?_⟩;cases x with
 |true=>exact⟨ι1,μ1,τ,f,τ',μ',R1,S.ext E1,e,λι2 H2 E2 R2=>q ι2 H2 (E1.trans E2) R2⟩
 |false=>exact⟨ι1,μ1,τ,f,τ',μ',R1,S.ext E1,e,λι2 H2 E2 R2=>q ι2 H2 (E1.trans E2) R2⟩
noncomputable def SO:Sl->M (Fl×Sl):=λ_=>BK
theorem SU:RS X st SO:=RS.wk Su λDn σ H h=>by
 obtain⟨ι,μ,τ,f,τ',μ',R,S,e,q⟩:=h;cases e
noncomputable def tG(K:KW)(bf:D->Sl->M Sl):TG:=λv σ H Q=>∃ι μ τ d τ' μ',RelH K ι μ H/\RelS K ι μ.length H τ σ/\Is K ι μ.length H d v/\bf d τ μ=some (τ',μ') /\
 Aft K ι μ H μ' λι' H'=>∀σ',RelS K ι' μ'.length H' τ' σ'->Q σ' H'
structure RG(X:Cx)(tg:Expr)(bf:D->Sl->M Sl):Prop where
 pe:PG X tg (tG X.kw bf)
theorem PG.wk(h:PG X tg t)(w:∀v σ H Q,t' v σ H Q->t v σ H Q):PG X tg t':=λpins s σ H v u Q I r q=>h pins s σ H v u Q I r (w v σ H Q q)
theorem RG.wk(h:PG X tg t)(w:∀v σ H Q,tG X.kw bf v σ H Q->t v σ H Q):RG X tg bf:=⟨PG.wk h w⟩
noncomputable def Aq(i:Nat):D->Sl->M Sl:=λd τ=>ret (τ.set i (some d))
theorem Of(h:tG K (Aq i) v σ H Q):EH i v σ H Q:=by
 obtain⟨ι,μ,τ,d,τ',μ',R,S,i1,e,q⟩:=h;cases e;exact q ι H R.ext0 R _ (S.set i i1)
theorem DG(i:Nat)(hN:X.N.Nodup)(hi:X.N[i]?=some x:=by rfl)(hx:Loc X.env.scope x:=by first|exact Or.inl rfl|exact Or.inr rfl)(hf:X.fn x=true∨X.env.scope.names.lookup x=some .local:=by first|exact .inl rfl|exact .inr rfl|assumption):RG X (.Name x pos) (Aq i):=
 RG.wk (Aw hN hi hx hf) λ_ _ _ _ h=>Of h
noncomputable def JC:List Nat->List D->Sl->M Sl
 |[],[],τ=>ret τ
 |i::is,d::ds,τ=>bnd (Aq i d τ) λτ1=>JC is ds τ1
 |_,_,_=>BK
noncomputable def CN(is:List Nat):D->Sl->M Sl
 | .tup ds,τ=>if ds.length=is.length then JC is ds τ else BK
 |_,_=>BK
noncomputable def Eo:List Nat->TGs
 |[]=>aG
 |i::is=>W7 (EH i) (Eo is)
theorem Gw:∀{is:List Nat} {ds:List D} {vs:List V} {τ τ':Sl} {σ:St} {ι:Nat->Addr} {μ μ':Mh} {H:Hp} {Q:St->Hp->Prop},RelH K ι μ H->RelS K ι μ.length H τ σ->IsL K ι μ.length H ds vs->JC is ds τ μ=some (τ',μ')->
  (μ'=μ->∀σ',RelS K ι μ.length H τ' σ'->Q σ' H)->Eo is vs σ H Q
 |[],[],_,_,_,_,_,_,_,_,_,R,S,i,e,q=>by
  cases e;unfold IsL at i;subst i;exact⟨rfl,q rfl _ S⟩
 |_::is,_::ds,_,τ,τ',σ,ι,μ,μ',H,Q,R,S,i,e,q=>by
  unfold IsL at i;obtain⟨v,vs',rfl,i1,i2⟩:=i;exact⟨v,vs',rfl,Gw (is:=is) (ds:=ds) R (S.set _ i1) i2 e q⟩
 |[],_::_,_,_,_,_,_,_,_,_,_,_,_,_,e,_=>by cases e
 |_::_,[],_,_,_,_,_,_,_,_,_,_,_,_,e,_=>by cases e
theorem EY(hc:X.calm=true)(h:PGs X es (Eo is))(hn:(assignEach es X.env).length=is.length:=by rfl)(hst:(assignEach es X.env).findIdx? (·.1)=none:=by rfl):RG X (.Tuple es k pos) (CN is):=
 RG.wk (S8 hc h hn hst) λv σ H Q h=>by
  obtain⟨ι,μ,τ,d,τ',μ',R,S,i1,e,q⟩:=h;cases d with
  |tup ds=>
   unfold Is at i1;obtain⟨p,vs,rfl,h1,h2⟩:=i1;have e':(if ds.length=is.length then JC is ds τ else BK) μ=some (τ',μ'):=e;by_cases hl:ds.length=is.length
   ·rw[if_pos hl] at e';have e:=e';refine⟨p,vs,rfl,h1,by rw[h2.length,hl],Gw R S h2 e λz σ' S'=>?_⟩;subst z;exact q ι H R.ext0 R σ' S'
   ·rw[if_neg hl] at e';cases e'
  |_=>cases e
noncomputable def Bl(m:Sl->M D)(bf:D->Sl->M Sl):Sl->M (Fl×Sl):=λτ=>bnd (m τ) λd=>bnd (bf d τ) λτ'=>ret (.next,τ')
theorem Oe(hg:∀v H Q,tG K bf v σ H Q->g v σ H Q)(h:tSt K (Bl m bf) Dn σ H):SC (tE K m) g Dn σ H:=by
 obtain⟨ι,μ,τ,f,τ',μ',R,S,e,q⟩:=h;obtain⟨x,μ1,e1,e⟩:=AL e;obtain⟨τ1,μ2,e2,e⟩:=AL e;cases e;exact⟨ι,μ,τ,x,μ1,R,S,e1,λι1 H1 E1 R1 v i1=>hg _ _ _ ⟨ι1,μ1,τ,x,_,_,R1,S.ext E1,i1,e2,λι2 H2 E2 R2 σ' S'=>q ι2 H2 (E1.trans E2) R2 σ' S'⟩⟩
theorem AW(i:Nat)(hN:X.N.Nodup)(he:RE X e m)(hi:X.N[i]?=some x:=by rfl)(hx:Loc X.env.scope x:=by first|exact Or.inl rfl|exact Or.inr rfl)(hs:swapsWith e (some (.Name x pos')) pos.line X.env=pure false:=by rfl)(hf:X.fn x=true∨X.env.scope.names.lookup x=some .local:=by first|exact .inl rfl|exact .inr rfl|assumption):
  RS X (.Assign [.Name x pos'] e pos) (Bl m (Aq i)):=RS.wk (Xx hN hi hx he.pe hs hf) λ_ _ _ h=>Oe (λ_ _ _ q=>Of q) h
theorem SV(he:RE X e m)(hg:RG X tg bf)(hs:swapsWithSole [tg] e pos.line X.env=pure false:=by rfl)(hw:swappedStores [tg] e X.env=pure none:=by rfl)
  (h1:(assignEach [tg] X.env).map (·.2)=[assign tg X.env]:=by rfl):RS X (.Assign [tg] e pos) (Bl m bf):=RS.wk (X1 he.pe hg.pe hs hw h1) λ_ _ _ h=>Oe (λ_ _ _ q=>q) h
noncomputable def NL(mc:Sl->M Bool)(mb:Sl->M (Fl×Sl)):Nat->Sl->M (Fl×Sl)
 |0,_=>BK
 |n+1,τ=>bnd (mc τ) λx=>if x=true then bnd (mb τ) λr=>match r.1 with
   | .next=>NL mc mb n r.2
   | .cont=>NL mc mb n r.2
   | .brk=>ret (.next,r.2)
   | .rt d=>ret (.rt d,r.2)
  else ret (.next,τ)
noncomputable def Gd(n:Nat)(mc:Sl->M Bool)(mb:Sl->M (Fl×Sl)):Sl->M (Fl×Sl):=NL mc mb n
theorem Ly(n:Nat)(hp:PassesOwn (model X.prog X.w) X.A X.env X.xe)(hc:RT X c mc)(hb:RSs X body mb):RS X (.While c body [] pos) (Gd n mc mb):=RS.wk (Ss hp hc.pe hb.pe) λDn σ H h=>by
 refine⟨λn σ H=>tSt X.kw (NL mc mb n) Dn σ H,⟨n,h⟩,?_⟩;intro n σ H h;obtain⟨ι,μ,τ,f,τ',μ',R,S,e,q⟩:=h;cases n with
 |zero=>cases e
 |succ n=>
  obtain⟨x,μ1,e1,e⟩:=AL e;refine⟨ι,μ,τ,x,μ1,R,S,e1,λι1 H1 E1 R1=>?_⟩;cases x with
  |false=>cases e;exact q ι1 H1 E1 R1 σ (S.ext E1)
  |true=>
   obtain⟨⟨f2,τ2⟩,μ2,e2,e⟩:=AL e;refine⟨λσ' H'=>tSt X.kw (NL mc mb n) Dn σ' H',λσ' H' z=>⟨n,Nat.lt_succ_self n,z⟩,?_⟩;refine⟨ι1,μ1,τ,f2,τ2,μ2,R1,S.ext E1,e2,λι2 H2 E2 R2 σ2 S2=>?_⟩;have E12:=E1.trans E2;cases f2 with
   |next=>exact⟨ι2,μ2,τ2,f,τ',μ',R2,S2,e,λι3 H3 E3 R3=>q ι3 H3 (E12.trans E3) R3⟩
   |cont=>exact⟨ι2,μ2,τ2,f,τ',μ',R2,S2,e,λι3 H3 E3 R3=>q ι3 H3 (E12.trans E3) R3⟩
   |brk=>cases e;exact q ι2 H2 E12 R2 σ2 S2
   |rt d=>cases e;exact q ι2 H2 E12 R2 σ2 S2
def ItM(K:KW)(J:It)(ds:List D)(ι:Nat->Addr)(μ:Mh)(H:Hp):Prop:=∀ι' (μ':Mh) H',Ext ι μ.length H ι' μ'.length H'->RelH K ι' μ' H'->
 (∀i,i<ds.length->J.go i H')/\J.stop ds.length H'/\∀(i:Nat) x H2 d,ds[i]?=some d->J.yld i H' x H2->Ext ι' μ'.length H' ι' μ'.length H2/\RelH K ι' μ' H2/\Is K ι' μ'.length H2 d x
theorem ItM.ext(h:ItM K J ds ι μ H)(E:Ext ι μ.length H ι' μ'.length H'):ItM K J ds ι' μ' H':=λι2 μ2 H2 E2 R2=>h ι2 μ2 H2 (E.trans E2) R2
noncomputable def tI(K:KW)(m:Sl->M (List D)):TI:=λσ H R=>∃ι μ τ ds μ',RelH K ι μ H/\RelS K ι μ.length H τ σ/\m τ μ=some (ds,μ') /\
 Aft K ι μ H μ' λι' H'=>∀J,ItM K J ds ι' μ' H'->R J H'
structure RI(X:Cx)(tg iter:Expr)(m:Sl->M (List D)):Prop where
 pe:PI X tg iter (tI X.kw m)
theorem PI.wk(h:PI X tg iter t)(w:∀σ H R,t' σ H R->t σ H R):PI X tg iter t':=λpins s σ H R I q=>h pins s σ H R I (w σ H R q)
theorem RI.wk(h:PI X tg iter t)(w:∀σ H R,tI X.kw m σ H R->t σ H R):RI X tg iter m:=⟨PI.wk h w⟩
theorem PI.or(h:PI X tg iter t)(h':PI X tg iter t'):PI X tg iter (λσ H R=>t σ H R∨t' σ H R):=λpins s σ H R I q=>q.elim (h pins s σ H R I) (h' pins s σ H R I)
noncomputable def aW:D->M (List D)
 | .lst ds=>ret ds
 | .tup ds=>ret ds
 | .scr ns=>ret (ns.map D.int)
 |_=>BK
noncomputable def Dv(m:Sl->M D):Sl->M (List D):=λτ=>bnd (m τ) aW
theorem MT(st:∀ι' (μ':Mh) H',Ext ι μ.length H ι' μ'.length H'->RelH K ι' μ' H'->SqL K H' p vs)(i:IsL K ι μ.length H ds vs):ItM K (Itl K p) ds ι μ H:=by
 intro ι' μ' H' E R;have h:=st ι' μ' H' E R;have hl:=i.length;refine⟨λj hj=>⟨vs,vs[j],h,by simp⟩,⟨vs,h,by omega⟩,λj x H2 d hd y=>?_⟩;obtain⟨e,y⟩:=y;subst e;obtain⟨v,ev,iv⟩:=(i.ext E).get hd;have:=y vs h;rw[ev] at this;cases this;exact⟨R.ext0,R,iv⟩
theorem V3{K:KW}{ι:Nat->Addr}{μ:Mh}(h:SqT K H p vs)(i:IsL K ι μ.length H ds vs):ItM K (Itt K p) ds ι μ H:=by
 intro ι' μ' H' E R;have h:=Fr E h;have hl:=i.length;refine⟨λj hj=>⟨vs,vs[j],h,by simp⟩,⟨vs,h,by omega⟩,λj x H2 d hd y=>?_⟩;obtain⟨e,y⟩:=y;subst e;obtain⟨v,ev,iv⟩:=(i.ext E).get hd;have:=y vs h;rw[ev] at this;cases this;exact⟨R.ext0,R,iv⟩
theorem VG(q:tI K (Dv m) σ H R):W5 K (tE K m) σ H R∨aE K (tE K m) σ H R:=by
 obtain⟨ι,μ,τ,ds,μ',R0,S,e,q⟩:=q;obtain⟨x,μ1,e1,e⟩:=AL e;cases x with
 |lst es=>
  cases e;refine .inl ⟨ι,μ,τ,_,_,R0,S,e1,λι1 H1 E1 R1 v i1=>?_⟩;unfold Is at i1;obtain⟨p,vs,rfl,h1,hn,h2⟩:=i1;exact⟨p,rfl,⟨vs,SqL.of h1⟩,q ι1 H1 E1 R1 _ (MT (λι' μ' H' E _=>SqL.of (E.keep p _ h1 hn)) h2)⟩
 |tup es=>
  cases e;refine .inr ⟨ι,μ,τ,_,_,R0,S,e1,λι1 H1 E1 R1 v i1=>?_⟩;unfold Is at i1;obtain⟨p,vs,rfl,h1,h2⟩:=i1;exact⟨p,rfl,⟨vs,h1⟩,q ι1 H1 E1 R1 _ (V3 h1 h2)⟩
 |scr ns=>
  cases e;refine .inl ⟨ι,μ,τ,_,_,R0,S,e1,λι1 H1 E1 R1 v i1=>?_⟩;unfold Is at i1;obtain⟨p,rfl,h1⟩:=i1;exact⟨p,rfl,⟨_,h1.sq⟩,q ι1 H1 E1 R1 _ (MT (λι' μ' H' E _=>(Os E h1).sq) (IsL.ofInts ns))⟩
 |non=>cases e
 |bl _=>cases e
 |int _=>cases e
 |str _=>cases e
 |ty _=>cases e
 |ref _=>cases e
theorem Bz(h:RE X e m):RI X tg e (Dv m):=RI.wk (PI.or (O8 h.pe) (X3 h.pe)) λ_ _ _ q=>VG q
noncomputable def L3(lo hi:Int):List D:=(List.range (hi-lo).toNat).map λ(j:Nat)=>D.int (lo+(j:Int))
noncomputable def SZ:List D->M (List D)
 |[.int j]=>λμ=>if -(2 ^ 62)<=j/\j<2 ^ 62 then some (L3 0 j,μ) else none
 |_=>BK
noncomputable def GC(m:Sl->M (List D)):Sl->M (List D):=λτ=>bnd (m τ) SZ
theorem V4:ItM K (Itr lo (hi-lo).toNat) (L3 lo hi) ι μ H:=by
 intro ι' μ' H' E R;have hl:(L3 lo hi).length=(hi-lo).toNat:=by simp[L3]
 rw[hl];refine⟨λj hj=>hj,AAF _,λj x H2 d hd y=>?_⟩;obtain⟨e,y⟩:=y;subst e;unfold L3 at hd;rw[AAW] at hd;cases q:(List.range (hi-lo).toNat)[j]? with
 |none=>rw[q] at hd;cases hd
 |some z=>
  rw[q] at hd;have hz:z=j:=by
   have:=(AAU.mp q).2;simpa using this.symm
  subst hz;cases hd;exact⟨R.ext0,R,by unfold Is;exact y⟩
theorem E6(hm:X.mg "range" = none)(ha:RA X [a] m)(hg:Gl X "range" := by rfl)(hs:starEach [a] X.env=[(false,eval a X.env)]:=by rfl):RI X tg (.Call (.Name "range" p) [a] [] pos) (GC m):=
 RI.wk (QX hg hm ha.pe hs) λσ H R q=>by
  obtain⟨ι,μ,τ,ds,μ',R0,S,e,q⟩:=q;obtain⟨xs,μ1,e1,e⟩:=AL e;refine⟨ι,μ,τ,xs,μ1,R0,S,e1,λι1 H1 E1 R1 vs i1=>?_⟩;unfold SZ at e;split at e
  ·rename_i j;split at e
   ·rename_i hb;cases e;unfold IsL Is at i1;obtain⟨v,vs',rfl,rfl,i2⟩:=i1;unfold IsL at i2;subst i2;refine⟨j,rfl,hb.1,hb.2,q ι1 H1 E1 R1 _ ?_⟩;have:=V4 (K:=X.kw) (ι:=ι1) (μ:=μ') (H:=H1) (lo:=0) (hi:=j);rw[Int.sub_zero] at this;exact this
   ·cases e
  ·cases e
noncomputable def CB(bf:D->Sl->M Sl)(mb:Sl->M (Fl×Sl)):List D->Sl->M (Fl×Sl)
 |[],τ=>ret (.next,τ)
 |x::xs,τ=>bnd (bf x τ) λτ1=>bnd (mb τ1) λr=>match r.1 with
  | .next=>CB bf mb xs r.2
  | .cont=>CB bf mb xs r.2
  | .brk=>ret (.next,r.2)
  | .rt d=>ret (.rt d,r.2)
noncomputable def DM(src:Sl->M (List D))(bf:D->Sl->M Sl)(mb:Sl->M (Fl×Sl)):Sl->M (Fl×Sl):=λτ=>bnd (src τ) λds=>CB bf mb ds τ
theorem CQ(hp:PassesOwn (model X.prog X.w) X.A X.env X.xe)(hc:X.calm=true)(hi:RI X tg iter src)(hg:RG X tg bf)(hb:RSs X body mb)
  (hs:∀x,foldedSetIterable iter X.env x=pure x:=by intro _;rfl):RS X (.For tg iter body [] pos) (DM src bf mb):=RS.wk (Sv hp hc hi.pe hg.pe hb.pe hs) λDn σ H h=>by
 obtain⟨ι,μ,τ,f,τ',μ',R,S,e,q⟩:=h;obtain⟨ds,μ1,e1,e⟩:=AL e;refine⟨ι,μ,τ,ds,μ1,R,S,e1,λι1 H1 E1 R1 J it=>?_⟩
 let W:Nat->Nat->St->Hp->Prop:=λi m σ H=>m=ds.length-i/\i<=ds.length/\∃ι μ τ f τ' μ',RelH X.kw ι μ H/\RelS X.kw ι μ.length H τ σ/\ItM X.kw J ds ι μ H/\CB bf mb (ds.drop i) τ μ=some ((f,τ'),μ') /\
  Aft X.kw ι μ H μ' λι' H'=>∀σ',RelS X.kw ι' μ'.length H' τ' σ'->FlP X.kw Dn ι' μ'.length H' τ' σ' f
 refine⟨W,⟨ds.length,by simp,AAk _,ι1,μ1,τ,f,τ',μ',R1,S.ext E1,it,e,λι2 H2 E2 R2=>q ι2 H2 (E1.trans E2) R2⟩,?_⟩;rintro i m σ H ⟨hm,hil,ι,μ,τ,f,τ',μ',R,S,it,e,q⟩;obtain⟨go,stop,yl⟩:=it ι μ H R.ext0 R;by_cases hlt:i<ds.length
 ·refine .inr ⟨go i hlt,λσ' H'=>W (i+1) (ds.length-(i+1)) σ' H',λσ' H' z=>⟨_,by omega,z⟩,λx H2 y=>?_⟩;have hd:ds[i]?=some ds[i]:=by simp[hlt]
  obtain⟨E2,R2,ix⟩:=yl i x H2 _ hd y;rw[List.drop_eq_getElem_cons hlt] at e;obtain⟨τ1,μ1,e1,e⟩:=AL e;obtain⟨⟨f2,τ2⟩,μ2,e2,e⟩:=AL e;refine⟨ι,μ,τ,_,τ1,μ1,R2,S.ext E2,ix,e1,λι3 H3 E3 R3 σ3 S3=>?_⟩;refine⟨ι3,μ1,τ1,f2,τ2,μ2,R3,S3,e2,λι4 H4 E4 R4 σ4 S4=>?_⟩;have E14:=(E2.trans E3).trans E4;cases f2 with
  |next=>exact⟨rfl,hlt,ι4,μ2,τ2,f,τ',μ',R4,S4,it.ext E14,e,λι5 H5 E5 R5=>q ι5 H5 (E14.trans E5) R5⟩
  |cont=>exact⟨rfl,hlt,ι4,μ2,τ2,f,τ',μ',R4,S4,it.ext E14,e,λι5 H5 E5 R5=>q ι5 H5 (E14.trans E5) R5⟩
  |brk=>cases e;exact q ι4 H4 E14 R4 σ4 S4
  |rt d=>cases e;exact q ι4 H4 E14 R4 σ4 S4
 ·have hi':i=ds.length:=by omega
  subst hi';rw[List.drop_length] at e;cases e;exact .inl ⟨stop,q ι H R.ext0 R σ S⟩
end
section
variable{X:Cx}{scope:Scope}{tgs:List Str}{ix:List Nat}{elt tg iter:Expr}{pos:Pos}
noncomputable def S5(ix:List Nat)(τ:Sl):Sl:=ix.map λj=>(τ[j]?).getD none
noncomputable def DF(n:Nat)(ix:List Nat)(τ:Sl):Sl:=List.replicate n none++S5 ix τ
noncomputable def Fj(bf:D->Sl->M Sl)(mc:Sl->M Bool)(me:Sl->M D)(τ0:Sl):List D->List D->M (List D)
 |[],ys=>ret ys
 |x::xs,ys=>bnd (bf x τ0) λτ1=>bnd (mc τ1) λc=>if c=true then bnd (me τ1) λy=>Fj bf mc me τ0 xs (ys++[y]) else Fj bf mc me τ0 xs ys
noncomputable def Cd(n:Nat)(ix:List Nat)(src:Sl->M (List D))(bf:D->Sl->M Sl)(mc:Sl->M Bool)(me:Sl->M D)(fin:List D->M D):Sl->M D:=λτ=>bnd (src τ) λds=>bnd (lim ds.length) λ_=>bnd (Fj bf mc me (DF n ix τ) ds []) fin
noncomputable def EG:Sl->M Bool:=λ_=>ret true
theorem RelS.block(S:RelS K ι k H τ σ):RelS K ι k H (DF tgs.length ix τ) (B7 tgs ix σ):=by
 refine⟨by simp[DF,B7,S5,Jt],λi d e=>?_⟩;unfold DF at e;have hk:tgs.length<=i:=by
  rcases Nat.lt_or_ge i tgs.length with z|z
  ·rw[AAT (by simpa using z),List.getElem?_replicate,if_pos z] at e;cases e
  ·exact z
 rw[AAS (by simpa using hk),AAm] at e;unfold S5 at e;rw[AAW] at e;cases q:ix[i-tgs.length]? with
 |none=>rw[q] at e;cases e
 |some j=>
  rw[q] at e;have e':(τ[j]?).getD none=some d:=Option.some.inj e;cases q2:τ[j]? with
  |none=>rw[q2] at e';cases e'
  |some o=>
   rw[q2] at e';have e'':o=some d:=e';subst e'';obtain⟨v,ev,iv⟩:=S.get j d q2;refine⟨v,?_,iv⟩;unfold B7;rw[AAS (by simpa using hk),AAm];unfold Jt;rw[AAW,q,Option.map_some,ev];rfl
theorem Oh(hn:tgs.length=n)(hf:∀ι μ μ' H ds vs d (Q:VK),RelH K ι μ H->IsL K ι μ.length H ds vs->fin ds μ=some (d,μ')->(Aft K ι μ H μ' λι' H'=>∀v,Is K ι' μ'.length H' d v->Q v H')->
   vs.length<=sizeLine/\∀p,H p=none->Q (.ref p) (upd H p (.lst vs)))
  (h:tE K (Cd n ix src (Aq i) mc me fin) σ H Q):Le tgs ix (tI K src) (EH i) (tT K mc) (tE K me) σ H Q:=by
 subst hn;obtain⟨ι,μ,τ,d,μ',R,S,e,q⟩:=h;obtain⟨ds,μ1,e1,e5⟩:=AL e;obtain⟨u,μ2,e2,e6⟩:=AL e5;obtain⟨zs,μ3,e3,e7⟩:=AL e6;obtain⟨hl,e4⟩:=C6 e2;clear e e5 e6;subst e4;refine⟨ι,μ,τ,ds,_,R,S,e1,λι1 H1 E1 R1 J it=>?_⟩;refine⟨λi' m ys H=>m=ds.length-i'/\i'<=ds.length/\ys.length<=i'/\∃(ι:Nat->Addr) (μ:Mh) (as:List D),RelH K ι μ H/\RelS K ι μ.length H τ σ/\ItM K J ds ι μ H/\IsL K ι μ.length H as ys/\Fj (Aq i) mc me (DF tgs.length ix τ) (ds.drop i') as μ=some (zs,μ3) /\
  Aft K ι μ H μ' λι' H'=>∀v,Is K ι' μ'.length H' d v->Q v H',⟨ds.length,by simp,AAk _,AAF _,ι1,_,[],R1,S.ext E1,it,.nil,e3,λι2 H2 E2 R2=>q ι2 H2 (E1.trans E2) R2⟩,?_⟩
 rintro i' m ys H ⟨hm,hil,hyl,ι,μ,as,R,S,it,ia,e3,q⟩;obtain⟨go,stop,yl⟩:=it ι μ H R.ext0 R;by_cases hlt:i'<ds.length
 ·refine .inr ⟨go i' hlt,by omega,λys' H'=>ys'.length<=i'+1/\∃(ι:Nat->Addr) (μ:Mh) (as:List D),RelH K ι μ H'/\RelS K ι μ.length H' τ σ/\ItM K J ds ι μ H'/\IsL K ι μ.length H' as ys'/\Fj (Aq i) mc me (DF tgs.length ix τ) (ds.drop (i'+1)) as μ=some (zs,μ3) /\
   Aft K ι μ H' μ' λι' H'=>∀v,Is K ι' μ'.length H' d v->Q v H',λys' H' z=>⟨_,(by omega:ds.length-(i'+1)<m),rfl,hlt,z⟩,λx H2 y=>?_⟩
  have hd:ds[i']?=some ds[i']:=by simp[hlt]
  obtain⟨E2,R2,ix2⟩:=yl i' x H2 _ hd y;rw[List.drop_eq_getElem_cons hlt] at e3;obtain⟨τ1,μ1,e1,e3⟩:=AL e3;cases e1;obtain⟨cc,μ2,e2,e3⟩:=AL e3;have S2:=(S.ext E2).block (tgs:=tgs) (ix:=ix);show tT K mc _ H2 _;refine⟨ι,_,_,cc,μ2,R2,S2.set i ix2,e2,λι3 H3 E3 R3=>?_⟩;have E13:=E2.trans E3;cases cc with
  |false=>
   exact⟨by omega,ι3,μ2,as,R3,S.ext E13,it.ext E13,ia.ext E13,e3,λι5 H5 E5 R5=>q ι5 H5 (E13.trans E5) R5⟩
  |true=>
   obtain⟨y',μ4,e4,e3⟩:=AL e3;refine⟨ι3,μ2,_,y',μ4,R3,(S2.set i ix2).ext E3,e4,λι4 H4 E4 R4 v iv=>?_⟩;have E14:=E13.trans E4;exact⟨by simp;omega,ι4,μ4,as++[y'],R4,S.ext E14,it.ext E14,(ia.ext E14).append (.one iv),e3,λι5 H5 E5 R5=>q ι5 H5 (E14.trans E5) R5⟩
 ·have hi':i'=ds.length:=by omega
  subst hi';rw[List.drop_length] at e3;cases e3;obtain⟨z1,z2⟩:=hf ι _ μ' H _ ys d Q R ia e7 q;exact .inl ⟨stop,z1,z2⟩
theorem Dq(S:BScope X scope tgs ix)(hc:X.calm=true)(hi:RI X tg iter src)(hg:∀fp C s H,PG (cxB X scope tgs fp C s H) tg (EH i))(hif:∀fp C s H,LN (cxB X scope tgs fp C s H) ifs (tT X.kw mc))(he:∀fp C s H,RE (cxB X scope tgs fp C s H) elt me)
  (hin:i<tgs.length:=by decide) (hn:tgs.length=n:=by rfl) (hs:∀x,foldedSetIterable iter X.env x=pure x:=by intro _;rfl) (ht:∀o v,letOwnedTupleGo tg o v=pure ():=by intro _ _;rfl):RE X (.ListComp elt [⟨tg,iter,ifs,0⟩] scope pos) (Cd n ix src (Aq i) mc me Ao):=
 RE.wk (Vh (te:=tE X.kw me) S hc hi.pe hg (Pc hin) hif (λfp C s H=>(he fp C s H).pe) hs ht) λ_ _ _ h=>Oh hn (λ_ _ _ _ _ _ _ _ R i e q=>CY R i e q) h
theorem CH:LN X [] (tT K EG):=λpins s σ H Q I h=>by
 obtain⟨ι,μ,τ,b,μ',R,S,e,q⟩:=h;cases e;exact Sy pins s σ H Q I (q ι H R.ext0 R)
theorem L4(h:RT X c mc):LN X [c] (tT X.kw mc):=Sx h.pe
theorem Dp(k:Nat)(hN:X.N.Nodup)(S:BScope X scope tgs ix)(hc:X.calm=true)(hi:RI X tg iter src)(hg:∀fp C s H,PG (cxB X scope tgs fp C s H) tg (EH i))(hif:∀fp C s H,LN (cxB X scope tgs fp C s H) ifs (tT X.kw mc))(he:∀fp C s H,RE (cxB X scope tgs fp C s H) elt me)
  (hfin:∀ι μ μ' H ds vs d (Q:VK),RelH X.kw ι μ H->IsL X.kw ι μ.length H ds vs->fin ds μ=some (d,μ')->(Aft X.kw ι μ H μ' λι' H'=>∀v,Is X.kw ι' μ'.length H' d v->Q v H')->vs.length<=sizeLine/\∀p,H p=none->Q (.ref p) (upd H p (.lst vs)))
  (hiN:X.N[k]?=some y:=by rfl) (hy:X.env.scope.names.lookup y=some .local:=by rfl) (hin:i<tgs.length:=by decide) (hn:tgs.length=n:=by rfl)
  (hsw:swapsWith (.ListComp elt [⟨tg,iter,ifs,0⟩] scope pos) (some (.Name y py)) spos.line X.env=pure true:=by rfl) (hs:∀x,foldedSetIterable iter X.env x=pure x:=by intro _;rfl) (ht:∀o v,letOwnedTupleGo tg o v=pure ():=by intro _ _;rfl) :
  RS X (.Assign [.Name y py] (.ListComp elt [⟨tg,iter,ifs,0⟩] scope pos) spos) (Bl (Cd n ix src (Aq i) mc me fin) (Aq k)):=
 RS.wk (Nc (te:=tE X.kw me) hN hiN hy S hc hi.pe hg (Pc hin) hif (λfp C s H=>(he fp C s H).pe) hsw hs ht) λDn σ H h=>by
  obtain⟨ι,μ,τ,f,τ',μ',R,S,e,q⟩:=h;obtain⟨x,μ1,e1,e⟩:=AL e;obtain⟨τ1,μ2,e2,e⟩:=AL e;cases e2;cases e;refine Oh hn hfin ⟨ι,μ,τ,x,_,R,S,e1,λι1 H1 E1 R1 v i1=>?_⟩;exact q ι1 H1 E1 R1 _ ((S.ext E1).set k i1)
mutual
def Cl(k:Nat):D->Prop
 | .tup ds=>ClL k ds
 | .lst ds=>ClL k ds
 | .ref n=>n<k
 |_=>True
def ClL(k:Nat):List D->Prop
 |[]=>True
 |d::ds=>Cl k d/\ClL k ds
end
noncomputable def ClO(k:Nat):MO->Prop
 | .lst ds=>ClL k ds
 | .dK l=>ClL k (l.map (·.2))
 | .dC l=>ClL k (l.map (·.2))
 | .ins _ l=>ClL k (l.map (·.2))
 | .dP l=>ClL k (l.map (·.1))/\ClL k (l.map (·.2))
section
variable{K:KW}{ι:Nat->Addr}{k k':Nat}{H:Hp}
mutual
theorem Is.down(hk:k<=k'):∀{d:D} {v:V},Cl k d->Is K ι k' H d v->Is K ι k H d v
 | .non,_,_,h=>by unfold Is at h ⊢;exact h
 | .bl _,_,_,h=>by unfold Is at h ⊢;exact h
 | .int _,_,_,h=>by unfold Is at h ⊢;exact h
 | .str _,_,_,h=>by unfold Is at h ⊢;exact h
 | .ty _,_,_,h=>by unfold Is at h ⊢;exact h
 | .scr _,_,_,h=>by unfold Is at h ⊢;exact h
 | .tup ds,_,c,h=>by
  unfold Is at h ⊢;obtain⟨p,vs,e,h1,h2⟩:=h;exact⟨p,vs,e,h1,IsL.down hk (by unfold Cl at c;exact c) h2⟩
 | .lst ds,_,c,h=>by
  unfold Is at h ⊢;obtain⟨p,vs,e,h1,hn,h2⟩:=h;exact⟨p,vs,e,h1,λn z=>hn n (AAN z hk),IsL.down hk (by unfold Cl at c;exact c) h2⟩
 | .ref n,_,c,h=>by
  unfold Is at h ⊢;exact⟨by unfold Cl at c;exact c,h.2⟩
theorem IsL.down(hk:k<=k'):∀{ds:List D} {vs:List V},ClL k ds->IsL K ι k' H ds vs->IsL K ι k H ds vs
 |[],_,_,h=>by unfold IsL at h ⊢;exact h
 |_::_,_,c,h=>by
  unfold IsL at h ⊢;unfold ClL at c;obtain⟨v,vs',e,h1,h2⟩:=h;exact⟨v,vs',e,Is.down hk c.1 h1,IsL.down hk c.2 h2⟩
end
mutual
theorem Is.cl:∀{d:D} {v:V},Is K ι k H d v->Cl k d
 | .non,_,_=>by unfold Cl;trivial
 | .bl _,_,_=>by unfold Cl;trivial
 | .int _,_,_=>by unfold Cl;trivial
 | .str _,_,_=>by unfold Cl;trivial
 | .ty _,_,_=>by unfold Cl;trivial
 | .scr _,_,_=>by unfold Cl;trivial
 | .tup ds,_,h=>by
  unfold Is at h;unfold Cl;obtain⟨p,vs,e,h1,h2⟩:=h;exact IsL.cl h2
 | .lst ds,_,h=>by
  unfold Is at h;unfold Cl;obtain⟨p,vs,e,h1,hn,h2⟩:=h;exact IsL.cl h2
 | .ref n,_,h=>by
  unfold Is at h;unfold Cl;exact h.1
theorem IsL.cl:∀{ds:List D} {vs:List V},IsL K ι k H ds vs->ClL k ds
 |[],_,_=>by unfold ClL;trivial
 |_::_,_,h=>by
  unfold IsL at h;unfold ClL;obtain⟨v,vs',e,h1,h2⟩:=h;exact⟨Is.cl h1,IsL.cl h2⟩
end
theorem KVs.cl:∀{l:List (Key×D)} {r:List (Key×V)},KVs K ι k H l r->ClL k (l.map (·.2))
 |[],_,_=>by unfold List.map ClL;trivial
 |(_,_)::_,_,h=>by
  obtain⟨v,r',e,h1,h2⟩:=h;rw[AAX];unfold ClL;exact⟨h1.cl,KVs.cl h2⟩
theorem KVs.down(hk:k<=k'):∀{l:List (Key×D)} {r:List (Key×V)},ClL k (l.map (·.2))->KVs K ι k' H l r->KVs K ι k H l r
 |[],_,_,h=>h
 |(_,_)::_,_,c,h=>by
  rw[AAX] at c;unfold ClL at c;obtain⟨v,r',e,h1,h2⟩:=h;exact⟨v,r',e,h1.down hk c.1,KVs.down hk c.2 h2⟩
theorem Pj:∀l:List Int,ClL k (l.map D.int)
 |[]=>by unfold List.map ClL;trivial
 |_::l=>by unfold List.map ClL;exact⟨by unfold Cl;trivial,Pj l⟩
theorem XF(c:Nk.Cs):Cl k (csD c):=by
 unfold csD Cl ClL;refine⟨by unfold Cl;trivial,?_⟩;unfold ClL;refine⟨by unfold Cl;trivial,?_⟩;unfold ClL;exact⟨by unfold Cl;exact Pj _,by unfold ClL;trivial⟩
theorem CVs.cl:∀{l:List (Nk.Cs×D)} {r:List (Nk.Cs×Addr×V)},CVs K ι k H l r->ClL k (l.map (·.2))
 |[],_,_=>by unfold List.map ClL;trivial
 |(_,_)::_,_,h=>by
  obtain⟨a,v,r',rfl,_,h1,h2⟩:=h;rw[AAX];unfold ClL;exact⟨h1.cl,CVs.cl h2⟩
theorem CVs.down(hk:k<=k'):∀{l:List (Nk.Cs×D)} {r:List (Nk.Cs×Addr×V)},ClL k (l.map (·.2))->CVs K ι k' H l r->CVs K ι k H l r
 |[],_,_,h=>h
 |(_,_)::_,_,c,h=>by
  rw[AAX] at c;unfold ClL at c;obtain⟨a,v,r',e,h0,h1,h2⟩:=h;exact⟨a,v,r',e,h0.down hk (XF _),h1.down hk c.1,CVs.down hk c.2 h2⟩
theorem FVs.cl:∀{l:List (Str×D)} {r:List (Str×V)},FVs K ι k H l r->ClL k (l.map (·.2))
 |[],_,_=>by unfold List.map ClL;trivial
 |(_,_)::_,_,h=>by
  obtain⟨v,r',rfl,h1,h2⟩:=h;rw[AAX];unfold ClL;exact⟨h1.cl,FVs.cl h2⟩
theorem FVs.down(hk:k<=k'):∀{l:List (Str×D)} {r:List (Str×V)},ClL k (l.map (·.2))->FVs K ι k' H l r->FVs K ι k H l r
 |[],_,_,h=>h
 |(_,_)::_,_,c,h=>by
  rw[AAX] at c;unfold ClL at c;obtain⟨v,r',e,h1,h2⟩:=h;exact⟨v,r',e,h1.down hk c.1,FVs.down hk c.2 h2⟩
theorem PVs.cl:∀{l:List (D×D)} {r:List (D×Addr×V)},PVs K ι k H l r->ClL k (l.map (·.1))/\ClL k (l.map (·.2))
 |[],_,_=>by unfold List.map ClL;exact⟨trivial,trivial⟩
 |(_,_)::_,_,h=>by
  obtain⟨a,v,r',_,h1,h2,h3⟩:=h;rw[AAX,AAX];unfold ClL;exact⟨⟨h1.2.2.cl,(PVs.cl h3).1⟩,h2.cl,(PVs.cl h3).2⟩
theorem PVs.down(hk:k<=k'):∀{l:List (D×D)} {r:List (D×Addr×V)},ClL k (l.map (·.1))->ClL k (l.map (·.2))->PVs K ι k' H l r->PVs K ι k H l r
 |[],_,_,_,h=>h
 |(_,_)::_,_,b,c,h=>by
  rw[AAX] at b c;unfold ClL at b c;obtain⟨a,v,r',e,h1,h2,h3⟩:=h;exact⟨a,v,r',e,⟨h1.1,h1.2.1,h1.2.2.down hk b.1⟩,h2.down hk c.1,PVs.down hk b.2 c.2 h3⟩
theorem ObjIs.cl(h:ObjIs K ι k H p o u):ClO k o:=by
 cases o with
 |lst ds=>obtain⟨vs,_,h⟩:=h;exact h.cl
 |dK l=>obtain⟨r,_,h⟩:=h;exact h.cl
 |dC l=>obtain⟨r,_,h⟩:=h;exact h.cl
 |ins c l=>obtain⟨C,dx,r,_,_,_,h⟩:=h;exact h.cl
 |dP l=>obtain⟨r,_,h⟩:=h;exact h.cl
theorem ObjIs.down(hk:k<=k')(c:ClO k o)(h:ObjIs K ι k' H p o u):ObjIs K ι k H p o u:=by
 cases o with
 |lst ds=>obtain⟨vs,e,h⟩:=h;exact⟨vs,e,h.down hk c⟩
 |dK l=>obtain⟨r,e,h⟩:=h;exact⟨r,e,h.down hk c⟩
 |dC l=>obtain⟨r,e,h⟩:=h;exact⟨r,e,h.down hk c⟩
 |ins n l=>obtain⟨C,dx,r,e,h0,h1,h⟩:=h;exact⟨C,dx,r,e,h0,h1,h.down hk c⟩
 |dP l=>obtain⟨r,e,h⟩:=h;exact⟨r,e,h.down hk c.1 c.2⟩
end
def bz(μ2 μ':Mh)(d' d:D):Prop:=(d'=d/\Cl μ'.length d)∨∃n ds,d'=.ref n/\μ2[n]?=some (.lst ds)/\μ'.length<=n/\d=.lst ds/\ClL μ'.length ds
structure Pr(μ μ2 μ':Mh)(d' d:D):Prop where
 grow:∃g,μ2=μ'++g
 le:μ.length<=μ'.length
 old:∀(n:Nat) (o:MO),μ'[n]?=some o->μ[n]?=some o∨ClO μ'.length o
 conv:bz μ2 μ' d' d
noncomputable def QM:Fl->D
 | .rt d=>d
 |_=>.non
theorem R6(R:RelH K ι μ H)(E:Ext ι μ.length H ι2 μ2.length H2)(R2:RelH K ι2 μ2 H2)(t:Pr μ μ2 μ' d' d):
  Ext ι μ.length H ι2 μ'.length H2/\RelH K ι2 μ' H2/\∀v,Is K ι2 μ2.length H2 d' v->Is K ι2 μ'.length H2 d v:=by
 obtain⟨⟨g,hg⟩,le,old,conv⟩:=t;have hle:μ'.length<=μ2.length:=by rw[hg];simp
 have hget:∀(n:Nat) (o:MO),μ'[n]?=some o->μ2[n]?=some o:=λn o e=>by
  rw[hg,AAT (AAU.mp e).1];exact e
 refine⟨⟨le,E.agree,λn h1 h2=>E.fresh n h1 (AAN h2 hle),E.keep,E.was,E.there⟩,⟨λi j hi hj=>R2.inj i j (AAN hi hle) (AAN hj hle),λn o e=>?_⟩,λv iv=>?_⟩
 ·obtain⟨u,q,hq⟩:=R2.obj n o (hget n o e);refine⟨u,q,hq.down hle ?_⟩;rcases old n o e with z|z
  ·obtain⟨u0,_,h0⟩:=R.obj n o z;have c:=h0.cl;cases o with
   |lst ds=>exact clL_mono le c
   |dK l=>exact clL_mono le c
   |dC l=>exact clL_mono le c
   |ins n l=>exact clL_mono le c
   |dP l=>exact⟨clL_mono le c.1,clL_mono le c.2⟩
  ·exact z
 ·rcases conv with ⟨rfl,c⟩|⟨n,ds,rfl,hn,hle2,rfl,c⟩
  ·exact iv.down hle c
  ·obtain⟨u,q,vs,rfl,il⟩:=R2.obj n _ hn;have hn2:n<μ2.length:=(AAU.mp hn).1;unfold Is at iv ⊢;refine⟨ι2 n,vs,iv.2,q,λm hm z=>?_,il.down hle c⟩;have:=R2.inj m n (AAN hm hle) hn2 z;omega
where
 cl_mono {k k':Nat} (h:k<=k'):∀{d:D},Cl k d->Cl k' d
  | .non,_=>by unfold Cl;trivial
  | .bl _,_=>by unfold Cl;trivial
  | .int _,_=>by unfold Cl;trivial
  | .str _,_=>by unfold Cl;trivial
  | .ty _,_=>by unfold Cl;trivial
  | .scr _,_=>by unfold Cl;trivial
  | .tup ds,c=>by unfold Cl at c ⊢;exact clL_mono h c
  | .lst ds,c=>by unfold Cl at c ⊢;exact clL_mono h c
  | .ref n,c=>by unfold Cl at c ⊢;exact AAN c h
 clL_mono {k k':Nat} (h:k<=k'):∀{ds:List D},ClL k ds->ClL k' ds
  |[],_=>by unfold ClL;trivial
  |_::_,c=>by unfold ClL at c ⊢;exact⟨cl_mono h c.1,clL_mono h c.2⟩
noncomputable def CD(n:Nat)(ds:List D):Sl:=ds.map some++List.replicate (n-ds.length) none
theorem RelS.start(i:IsL K ι k H ds vs):RelS K ι k H (CD N.length ds) (L2.start N vs):=by
 have hl:=i.length;refine⟨by simp[CD,L2.start,hl],λj d e=>?_⟩;unfold CD at e;unfold L2.start;rcases Nat.lt_or_ge j ds.length with z|z
 ·rw[AAT (by simpa using z),AAW] at e;rw[AAT (by simpa[hl] using z),AAW];cases q:ds[j]? with
  |none=>rw[q] at e;cases e
  |some d0=>
   rw[q] at e;cases e;obtain⟨v,ev,iv⟩:=i.get q;exact⟨v,by rw[ev];rfl,iv⟩
 ·rw[AAS (by simpa using z),List.getElem?_replicate] at e;split at e<;>cases e
end
noncomputable def DC:D->M (List D)
 | .lst ds=>ret ds
 | .scr ns=>ret (ns.map D.int)
 | .ref n=>λμ=>match μ[n]? with
  |some (.lst ds)=>some (ds,μ)
  |_=>none
 |_=>BK
section
variable{K:KW}{ι:Nat->Addr}{μ μ':Mh}{H:Hp}{d:D}{v:V}{ds:List D}
theorem Bw(R:RelH K ι μ H)(i:Is K ι μ.length H d v)(e:DC d μ=some (ds,μ')):μ'=μ/\∃p vs,v=.ref p/\SqL K H p vs/\IsL K ι μ.length H ds vs:=by
 cases d with
 |lst es=>
  cases e;unfold Is at i;obtain⟨p,vs,rfl,h1,hn,h2⟩:=i;exact⟨rfl,p,vs,rfl,SqL.of h1,h2⟩
 |scr ns=>
  cases e;unfold Is at i;obtain⟨p,rfl,h1⟩:=i;exact⟨rfl,p,_,rfl,h1.sq,IsL.ofInts ns⟩
 |ref n=>
  unfold Is at i;obtain⟨hn,rfl⟩:=i;have e':(match μ[n]? with|some (.lst ds)=>some (ds,μ)|_=>none)=some (ds,μ'):=e;split at e'
  ·rename_i es hq;cases e';obtain⟨u,h1,vs,rfl,h2⟩:=R.obj n _ hq;exact⟨rfl,_,vs,rfl,SqL.of h1,h2⟩
  ·cases e'
 |_=>cases e
theorem BX(h:Is K ι μ.length H (.int i) v):v=.int i:=by unfold Is at h;exact h
theorem DP(h:Is K ι μ.length H (.str i) v):v=.str i:=by unfold Is at h;exact h
theorem Wz(h:Is K ι μ.length H (.bl i) v):v=.bl i:=by unfold Is at h;exact h
theorem N0(h:Is K ι μ.length H .non v):v=.non:=by unfold Is at h;exact h
theorem aB(h:Is K ι μ.length H (.ty n) v):v=.ty n:=by unfold Is at h;exact h
theorem ofI(i:Int):Is K ι k H (.int i) (.int i):=by unfold Is;rfl
theorem ofS(i:Str):Is K ι k H (.str i) (.str i):=by unfold Is;rfl
theorem ofB(i:Bool):Is K ι k H (.bl i) (.bl i):=by unfold Is;rfl
theorem ofN:Is K ι k H .non .non:=by unfold Is;rfl
theorem Gq(h:IsL K ι k H [d] vs):∃v,vs=[v]/\Is K ι k H d v:=by
 unfold IsL at h;obtain⟨v,vs',rfl,h1,h2⟩:=h;unfold IsL at h2;subst h2;exact⟨v,rfl,h1⟩
theorem To(h:IsL K ι k H [d,d'] vs):∃v v',vs=[v,v']/\Is K ι k H d v/\Is K ι k H d' v':=by
 unfold IsL at h;obtain⟨v,vs',rfl,h1,h2⟩:=h;obtain⟨v',rfl,h3⟩:=Gq h2;exact⟨v,v',rfl,h1,h3⟩
theorem Yr(h:IsL K ι k H ds vs)(e:atI ds i=some d):∃v,atI vs i=some v/\Is K ι k H d v:=by
 unfold atI at e ⊢;rw[h.length];cases q:ixN ds.length i with
 |none=>rw[q] at e;cases e
 |some j=>
  rw[q] at e;exact h.get e
theorem UE(h:IsL K ι k H ds vs):IsL K ι k H ((ds.drop (HT.sIx ds.length 0 lo)).take (HT.sIx ds.length ds.length hi-HT.sIx ds.length 0 lo)) (Mu vs lo hi):=by
 unfold Mu;rw[h.length];exact(h.drop _).take _
end
noncomputable def LA(C:Int->Int->Prop)[∀i j,Decidable (C i j)](g:Int->Int->D):D->D->M D
 | .int i,.int j=>λμ=>if C i j then some (g i j,μ) else none
 |_,_=>BK
noncomputable def Ea:D->D->M D:=LA (λ_ _=>True) λi j=>.int (i-j)
noncomputable def DO:D->D->M D:=LA (λ_ j=>0<j/\j<1073741824) λi j=>.int (i / j)
noncomputable def BP:D->D->M D:=LA (λ_ j=>0<j) λi j=>.int (i % j)
noncomputable def Si:D->D->M D:=LA (λi j=>0<=j/\j<=1000000/\i.natAbs<2 ^ 64) λi j=>.int (i ^ j.toNat)
noncomputable def Kv:D->D->M D:=LA (λ_ _=>True) λi j=>.bl (decide (i<j))
noncomputable def Sk:D->D->M D:=LA (λ_ _=>True) λi j=>.bl (decide (i<=j))
noncomputable def Zn:D->D->M D:=LA (λ_ _=>True) λi j=>.bl (decide (j<i))
noncomputable def QQ:D->D->M D:=LA (λ_ _=>True) λi j=>.bl (decide (j<=i))
section
variable{X:Cx}
theorem Ec[∀i j,Decidable (C i j)](hg:∀i j ι k H,Is X.kw ι k H (g i j) (gv i j))(ho:OpR X f (rI C gv)):OpR X f (rM X.kw (LA C g)):=OpR.wk ho λx y H Q h=>by
 obtain⟨ι,μ,a,b,d,μ',R,ia,ib,e,q⟩:=h;cases a with
 |int i=>
  cases b with
  |int j=>
   have e':(if C i j then some (g i j,μ) else none)=some (d,μ'):=e;split at e'
   ·rename_i hc;cases e';exact⟨i,j,BX ia,BX ib,hc,q ι H R.ext0 R _ (hg i j _ _ _)⟩
   ·cases e'
  |_=>cases e
 |_=>cases e
theorem OpR.ofI0(ho:OpR X f (rI0 gv)):OpR X f (rI (λ_ _=>True) gv):=OpR.wk ho λx y H Q h=>by
 obtain⟨i,j,h1,h2,_,q⟩:=h;exact⟨i,j,h1,h2,q⟩
theorem IK:OpR X (binaryOp .Sub) (rM X.kw Ea):=Ec (λ_ _ _ _ _=>ofI _) (OpR.ofI0 YH)
theorem IL:OpR X (binaryOp .FloorDiv) (rM X.kw DO):=Ec (λ_ _ _ _ _=>ofI _) Vo
theorem Bg:OpR X (binaryOp .Mod) (rM X.kw BP):=Ec (λ_ _ _ _ _=>ofI _) YM
theorem Z3:OpR X (binaryOp .Pow) (rM X.kw Si):=Ec (λ_ _ _ _ _=>ofI _) YJ
theorem Vs:OpR X (compareOp .Lt) (rM X.kw Kv):=Ec (λ_ _ _ _ _=>ofB _) (OpR.ofI0 Zx)
theorem Vt:OpR X (compareOp .LtE) (rM X.kw Sk):=Ec (λ_ _ _ _ _=>ofB _) (OpR.ofI0 Zy)
theorem bn:OpR X (compareOp .Gt) (rM X.kw Zn):=Ec (λ_ _ _ _ _=>ofB _) (OpR.ofI0 Zz)
theorem Vu:OpR X (compareOp .GtE) (rM X.kw QQ):=Ec (λ_ _ _ _ _=>ofB _) (OpR.ofI0 Z0)
noncomputable def Sj:D->M D
 | .int i=>ret (.int (-i))
 |_=>BK
theorem Wk:UnR X (unaryOp .USub) (rM1 X.kw Sj):=λpins s σ H x v Q I r h=>by
 obtain⟨ι,μ,a,d,μ',R,ia,e,q⟩:=h;cases a with
 |int i=>
  cases e;have z:=BX ia;subst z;exact XY pins s σ H _ v Q I r ⟨i,rfl,q ι H R.ext0 R _ (ofI _)⟩
 |_=>cases e
noncomputable def O5:D->D->M D
 | .int i,.int j=>ret (.int (i+j))
 | .str i,.str j=>bnd (lim (i.length+j.length)) λ_=>ret (.str (i++j))
 | .lst a,.lst b=>Ao (a++b)
 | .tup [],.tup b=>BK
 | .tup (a::as),.tup b=>AX (a::as++b)
 |_,_=>BK
theorem Wl:OpR X (binaryOp .Add) (rM X.kw O5):=λpins s σ H x y v u Q I rx ry h=>by
 obtain⟨ι,μ,a,b,d,μ',R,ia,ib,e,q⟩:=h;unfold O5 at e;split at e
 ·cases e;cases BX ia;cases BX ib;exact YQ pins s σ H _ _ v u Q I rx ry ⟨_,_,rfl,rfl,q ι H R.ext0 R _ (ofI _)⟩
 ·obtain⟨_,μ1,e1,e2⟩:=AL e;obtain⟨hl,rfl⟩:=C6 e1;cases e2;cases DP ia;cases DP ib;exact Nh pins s σ H _ _ v u Q I rx ry ⟨_,_,rfl,rfl,hl,q ι H R.ext0 R _ (ofS _)⟩
 ·unfold Is at ia ib;obtain⟨p,vs,rfl,h1,hn,h2⟩:=ia;obtain⟨p',vs',rfl,h1',hn',h2'⟩:=ib;obtain⟨hl,w⟩:=CY R (h2.append h2') e q;exact TR pins s σ H _ _ v u Q I rx ry ⟨p,p',vs,vs',rfl,rfl,h1,h1',by rw[←AAH];exact hl,w⟩
 ·cases e
 ·rename_i a as bs;unfold Is at ia ib;obtain⟨p,vs,rfl,h1,h2⟩:=ia;obtain⟨p',vs',rfl,h1',h2'⟩:=ib;obtain⟨hl,w⟩:=PF R (h2.append h2') e q;refine Vp pins s σ H _ _ v u Q I rx ry ⟨p,p',vs,vs',rfl,rfl,h1,h1',λz=>?_,by rw[←AAH];exact hl,λz=>?_,λ_=>w⟩
  ·have:=h2.length;rw[z] at this;cases this
  ·subst z;have hb:bs=[]:=by
    have:=h2'.length;cases bs with
    |nil=>rfl
    |cons _ _=>cases this
   subst hb;obtain⟨_,μ1,e1,e2⟩:=AL e;obtain⟨hl,rfl⟩:=C6 e1;cases e2;exact q ι H R.ext0 R _ (by unfold Is;exact⟨p,vs,rfl,h1,by rw[AAa];exact h2⟩)
 ·cases e
noncomputable def C4:D->D->M D
 | .int i,.int j=>λμ=>if (-(2 ^ 64)<i/\i<2 ^ 64)∨(-(2 ^ 64)<j/\j<2 ^ 64) then some (.int (i * j),μ) else none
 | .lst a,.int j=>λμ=>if -(2 ^ 63)<=j/\j<2 ^ 63/\a.length * j.toNat<=sizeLine then Ao (List.replicate j.toNat a).flatten μ else none
 |_,_=>BK
theorem IsL.rep(h:IsL K ι k H ds vs):∀n:Nat,IsL K ι k H (List.replicate n ds).flatten (List.replicate n vs).flatten
 |0=>.nil
 |n+1=>by
  rw[AAl,AAl,List.flatten_cons,List.flatten_cons];exact h.append (IsL.rep h n)
theorem F3:OpR X (binaryOp .Mult) (rM X.kw C4):=λpins s σ H x y v u Q I rx ry h=>by
 obtain⟨ι,μ,a,b,d,μ',R,ia,ib,e,q⟩:=h;unfold C4 at e;split at e
 ·split at e
  ·rename_i hc;cases e;cases BX ia;cases BX ib;exact YL pins s σ H _ _ v u Q I rx ry ⟨_,_,rfl,rfl,hc,q ι H R.ext0 R _ (ofI _)⟩
  ·cases e
 ·split at e
  ·rename_i hc;cases BX ib;unfold Is at ia;obtain⟨p,vs,rfl,h1,hn,h2⟩:=ia;obtain⟨hl,w⟩:=CY R (h2.rep _) e q;exact YI pins s σ H _ _ v u Q I rx ry ⟨p,_,vs,rfl,rfl,h1,hc.1,hc.2.1,by rw[h2.length];exact hc.2.2,w⟩
  ·cases e
 ·cases e
mutual
def toP(μ:Mh):D->Option PyData
 | .non=>some .none
 | .bl b=>some (.bool b)
 | .int i=>some (.int i)
 | .str x=>some (.str x)
 | .ty _=>none
 | .scr ns=>some (.list (ns.map PyData.int))
 | .tup ds=>(Fb μ ds).map PyData.tuple
 | .lst ds=>(Fb μ ds).map PyData.list
 | .ref _=>none
def Fb(μ:Mh):List D->Option (List PyData)
 |[]=>some []
 |d::ds=>(toP μ d).bind λp=>(Fb μ ds).map (p::·)
end
noncomputable def Ki(μ:Mh):D->Option PyData
 | .ref n=>match μ[n]? with
  |some (.lst ds)=>(Fb μ ds).map PyData.list
  |_=>none
 |d=>toP μ d
section
variable{K:KW}{ι:Nat->Addr}{μ:Mh}{H:Hp}{k:Nat}
theorem Pg:∀(ns:List Int),DatVs K H (ns.map V.int) (ns.map PyData.int)
 |[]=>.nil
 |n::r=>.cons (.int n) (Pg r)
mutual
theorem Is.dat:∀{d:D} {v:V} {p:PyData},Is K ι k H d v->toP μ d=some p->DatV K H v p
 | .non,_,_,h,e=>by unfold Is at h;unfold toP at e;cases e;subst h;exact .non
 | .bl b,_,_,h,e=>by unfold Is at h;unfold toP at e;cases e;subst h;exact .bl b
 | .int b,_,_,h,e=>by unfold Is at h;unfold toP at e;cases e;subst h;exact .int b
 | .str b,_,_,h,e=>by unfold Is at h;unfold toP at e;cases e;subst h;exact .str b
 | .ty b,_,_,h,e=>by unfold toP at e;cases e
 | .scr ns,_,_,h,e=>by
  unfold Is at h;unfold toP at e;cases e;obtain⟨p,rfl,h⟩:=h;exact .lst h.sq (Pg ns)
 | .tup ds,_,_,h,e=>by
  unfold Is at h;unfold toP at e;obtain⟨p,vs,rfl,h1,h2⟩:=h;cases q:Fb μ ds with
  |none=>rw[q] at e;cases e
  |some ps=>rw[q] at e;cases e;exact .tup h1 (IsL.dat h2 q)
 | .lst ds,_,_,h,e=>by
  unfold Is at h;unfold toP at e;obtain⟨p,vs,rfl,h1,_,h2⟩:=h;cases q:Fb μ ds with
  |none=>rw[q] at e;cases e
  |some ps=>rw[q] at e;cases e;exact .lst (SqL.of h1) (IsL.dat h2 q)
 | .ref n,_,_,h,e=>by unfold toP at e;cases e
theorem IsL.dat:∀{ds:List D} {vs:List V} {ps:List PyData},IsL K ι k H ds vs->Fb μ ds=some ps->DatVs K H vs ps
 |[],_,_,h,e=>by unfold IsL at h;unfold Fb at e;cases e;subst h;exact .nil
 |d::ds,_,_,h,e=>by
  unfold IsL at h;unfold Fb at e;obtain⟨v,vs',rfl,h1,h2⟩:=h;cases q:toP μ d with
  |none=>rw[q] at e;cases e
  |some p=>
   rw[q] at e;cases q2:Fb μ ds with
   |none=>rw[q2] at e;cases e
   |some ps=>rw[q2] at e;cases e;exact .cons (Is.dat h1 q) (IsL.dat h2 q2)
end
theorem WI(R:RelH K ι μ H)(h:Is K ι μ.length H d v)(e:Ki μ d=some p):DatV K H v p:=by
 cases d with
 |ref n=>
  unfold Is at h;obtain⟨_,rfl⟩:=h;have e':(match μ[n]? with|some (.lst ds)=>(Fb μ ds).map PyData.list|_=>none)=some p:=e;split at e'
  ·rename_i ds hq;obtain⟨u,h1,vs,rfl,h2⟩:=R.obj n _ hq;cases q:Fb μ ds with
   |none=>rw[q] at e';cases e'
   |some ps=>rw[q] at e';cases e';exact .lst (SqL.of h1) (IsL.dat h2 q)
  ·cases e'
 |_=>exact Is.dat (μ:=μ) h e
end
noncomputable def Eb(neg:Bool)(a b:D):M D:=λμ=>match Ki μ a,Ki μ b with
 |some p,some q=>if SeqAt.shaped p=true/\SeqAt.shaped q=true then some (.bl (if neg then !PyData.eqv p q else PyData.eqv p q),μ) else none
 |_,_=>none
noncomputable def Cb:D->D->M D:=Eb false
noncomputable def L8:D->D->M D:=Eb true
theorem IG(e:Eb neg a b μ=some (d,μ')):∃p q,Ki μ a=some p/\Ki μ b=some q/\SeqAt.shaped p=true/\SeqAt.shaped q=true/\d=.bl (if neg then !PyData.eqv p q else PyData.eqv p q)/\μ'=μ:=by
 unfold Eb at e;split at e
 ·rename_i p q e1 e2;split at e
  ·rename_i h;cases e;exact⟨p,q,e1,e2,h.1,h.2,rfl,rfl⟩
  ·cases e
 ·cases e
theorem bo(hr:Room k X.A):OpR X (compareOp .Eq) (rM X.kw Cb):=OpR.wk (YO (SY hr)) λx y H Q h=>by
 obtain⟨ι,μ,a,b,d,μ',R,ia,ib,e,q⟩:=h;obtain⟨p,p',e1,e2,s1,s2,rfl,rfl⟩:=IG e;exact⟨p,p',WI R ia e1,WI R ib e2,s1,s2,q ι H R.ext0 R _ (ofB _)⟩
theorem bj(hr:Room k X.A):OpR X (compareOp .NotEq) (rM X.kw L8):=OpR.wk (YK (SY hr)) λx y H Q h=>by
 obtain⟨ι,μ,a,b,d,μ',R,ia,ib,e,q⟩:=h;obtain⟨p,p',e1,e2,s1,s2,rfl,rfl⟩:=IG e;exact⟨p,p',WI R ia e1,WI R ib e2,s1,s2,q ι H R.ext0 R _ (ofB _)⟩
noncomputable def isN:D->Bool
 | .non=>true
 |_=>false
noncomputable def Dr(neg:Bool):D->D->M D
 |a,.non=>ret (.bl (if neg then !isN a else isN a))
 |_,_=>BK
theorem PZ(h:Is K ι k H a x):decide (x=V.non)=isN a:=by
 cases a with
 |non=>unfold Is at h;subst h;rfl
 |bl b=>unfold Is at h;subst h;rfl
 |int b=>unfold Is at h;subst h;rfl
 |str b=>unfold Is at h;subst h;rfl
 |ty b=>unfold Is at h;subst h;rfl
 |scr ns=>unfold Is at h;obtain⟨p,rfl,_⟩:=h;rfl
 |tup ns=>unfold Is at h;obtain⟨p,o,rfl,_⟩:=h;rfl
 |lst ns=>unfold Is at h;obtain⟨p,o,rfl,_⟩:=h;rfl
 |ref ns=>unfold Is at h;obtain⟨_,rfl⟩:=h;rfl
theorem MD:OpR X (compareOp .Is) (rM X.kw (Dr false)):=OpR.wk YN λx y H Q h=>by
 obtain⟨ι,μ,a,b,d,μ',R,ia,ib,e,q⟩:=h;cases b with
 |non=>cases e;exact⟨N0 ib,by rw[PZ ia];exact q ι H R.ext0 R _ (ofB _)⟩
 |_=>cases e
theorem F4:OpR X (compareOp .IsNot) (rM X.kw (Dr true)):=OpR.wk Vn λx y H Q h=>by
 obtain⟨ι,μ,a,b,d,μ',R,ia,ib,e,q⟩:=h;cases b with
 |non=>cases e;exact⟨N0 ib,by rw[PZ ia];exact q ι H R.ext0 R _ (ofB _)⟩
 |_=>cases e
noncomputable def Mf:D->Option V
 | .non=>some .non
 | .bl b=>some (.bl b)
 | .int i=>some (.int i)
 | .str x=>some (.str x)
 |_=>none
noncomputable def Gy:List D->Option (List V)
 |[]=>some []
 |d::ds=>(Mf d).bind λv=>(Gy ds).map (v::·)
section
variable{K:KW}{ι:Nat->Addr}{H:Hp}{k:Nat}
theorem Ih(h:Is K ι k H d x)(e:Mf d=some v):x=v/\C8 v=true:=by
 cases d with
 |non=>cases e;unfold Is at h;exact⟨h,rfl⟩
 |bl b=>cases e;unfold Is at h;exact⟨h,rfl⟩
 |int b=>cases e;unfold Is at h;exact⟨h,rfl⟩
 |str b=>cases e;unfold Is at h;exact⟨h,rfl⟩
 |_=>cases e
theorem Gx:∀{ds:List D} {vs xs:List V},IsL K ι k H ds xs->Gy ds=some vs->xs=vs/\vs.all C8=true
 |[],_,_,h,e=>by cases e;unfold IsL at h;exact⟨h,rfl⟩
 |d::ds,_,_,h,e=>by
  unfold IsL at h;obtain⟨v,vs',rfl,h1,h2⟩:=h;unfold Gy at e;cases q:Mf d with
  |none=>rw[q] at e;cases e
  |some w=>
   rw[q] at e;cases q2:Gy ds with
   |none=>rw[q2] at e;cases e
   |some ws=>
    rw[q2] at e;cases e;obtain⟨rfl,f1⟩:=Ih h1 q;obtain⟨rfl,f2⟩:=Gx h2 q2;exact⟨rfl,by rw[List.all_cons,f1,f2];rfl⟩
end
noncomputable def Co:D->M (List D)
 | .tup ds=>ret ds
 |d=>DC d
theorem CV(R:RelH K ι μ H)(i:Is K ι μ.length H d v)(e:Co d μ=some (ds,μ')):μ'=μ/\∃p vs,v=.ref p/\(SqL K H p vs∨SqT K H p vs)/\IsL K ι μ.length H ds vs:=by
 cases d with
 |tup es=>
  cases e;unfold Is at i;obtain⟨p,vs,rfl,h1,h2⟩:=i;exact⟨rfl,p,vs,rfl,.inr h1,h2⟩
 |lst es=>obtain⟨h,p,vs,a,b,c⟩:=Bw R i e;exact⟨h,p,vs,a,.inl b,c⟩
 |scr es=>obtain⟨h,p,vs,a,b,c⟩:=Bw R i e;exact⟨h,p,vs,a,.inl b,c⟩
 |ref es=>obtain⟨h,p,vs,a,b,c⟩:=Bw R i e;exact⟨h,p,vs,a,.inl b,c⟩
 |_=>cases e
noncomputable def W4(neg:Bool)(a b:D):M D:=bnd (Co b) λds=>λμ=>match Mf a,Gy ds with
 |some x,some xs=>some (.bl (if neg then !inV x xs else inV x xs),μ)
 |_,_=>none
noncomputable def JO(neg:Bool):D->D->M D
 | .str i,.str j=>ret (.bl (if neg then !(!(Builtin.Str.occurrences j i 0 j.length 1).isEmpty) else !(Builtin.Str.occurrences j i 0 j.length 1).isEmpty))
 |a,b=>W4 neg a b
theorem Sh(R:RelH K ι μ H)(ia:Is K ι μ.length H a x)(ib:Is K ι μ.length H b y)(e:W4 neg a b μ=some (d,μ'))(q:Aft K ι μ H μ' λι' H'=>∀v,Is K ι' μ'.length H' d v->Q v H'):rIn K neg x y H Q:=by
 obtain⟨ds,μ1,e1,e2⟩:=AL e;obtain⟨hm,p,vs,rfl,h1,h2⟩:=CV R ib e1;subst hm;split at e2
 ·rename_i w ws q1 q2;cases e2;obtain⟨rfl,f1⟩:=Ih ia q1;obtain⟨rfl,f2⟩:=Gx h2 q2;exact⟨p,_,rfl,h1,f1,f2,q ι H R.ext0 R _ (ofB _)⟩
 ·cases e2
theorem Z5:OpR X (compareOp .In) (rM X.kw (JO false)):=λpins s σ H x y v u Q I rx ry h=>by
 obtain⟨ι,μ,a,b,d,μ',R,ia,ib,e,q⟩:=h;unfold JO at e;split at e
 ·cases e;cases DP ia;cases DP ib;exact QZ pins s σ H _ _ v u Q I rx ry ⟨_,_,rfl,rfl,q ι H R.ext0 R _ (ofB _)⟩
 ·exact Qa pins s σ H _ _ v u Q I rx ry (Sh R ia ib e q)
theorem PB:OpR X (compareOp .NotIn) (rM X.kw (JO true)):=λpins s σ H x y v u Q I rx ry h=>by
 obtain⟨ι,μ,a,b,d,μ',R,ia,ib,e,q⟩:=h;unfold JO at e;split at e
 ·cases e;cases DP ia;cases DP ib;exact Ky pins s σ H _ _ v u Q I rx ry ⟨_,_,rfl,rfl,q ι H R.ext0 R _ (ofB _)⟩
 ·exact K0 pins s σ H _ _ v u Q I rx ry (Sh R ia ib e q)
noncomputable def ixD(ds:List D)(i:Int):M D:=λμ=>(atI ds i).map λd=>(d,μ)
noncomputable def CJ:D->D->M D
 | .str z,.int i=>λμ=>if z.length<=sizeLine then (atI z.cps.toList i).map λc=>(.str ⟨#[c]⟩,μ) else none
 |a,.int i=>bnd (Co a) λds=>ixD ds i
 |_,_=>BK
theorem bm:IxR X (rM X.kw CJ):=λva sl pins s σ H x y v u Q I rx ry h hsl=>by
 obtain⟨ι,μ,a,b,d,μ',R,ia,ib,e,q⟩:=h;unfold CJ at e;split at e
 ·split at e
  ·rename_i z i hl;cases DP ia;cases BX ib;cases qq:atI z.cps.toList i with
   |none=>rw[qq] at e;cases e
   |some c=>
    rw[qq] at e;cases e;exact Nx va sl pins s σ H _ _ v u Q I rx ry (.inr (.inr ⟨z,i,c,rfl,rfl,hl,qq,q ι H R.ext0 R _ (ofS _)⟩)) hsl
  ·cases e
 ·cases BX ib;obtain⟨ds,μ1,e1,e2⟩:=AL e;obtain⟨hm,p,vs,rfl,h1,h2⟩:=CV R ia e1;subst hm;rename_i i _;unfold ixD at e2;cases qq:atI ds i with
  |none=>rw[qq] at e2;cases e2
  |some c=>
   rw[qq] at e2;cases e2;obtain⟨w,ew,iw⟩:=Yr h2 qq;rcases h1 with h1|h1
   ·exact Nx va sl pins s σ H _ _ v u Q I rx ry (.inl ⟨p,vs,i,w,rfl,rfl,h1,ew,q ι H R.ext0 R _ iw⟩) hsl
   ·exact Nx va sl pins s σ H _ _ v u Q I rx ry (.inr (.inl ⟨p,vs,i,w,rfl,rfl,h1,ew,q ι H R.ext0 R _ iw⟩)) hsl
 ·cases e
noncomputable def DE:List D->M D
 |[.str z]=>λμ=>if z.length<=sizeLine then some (.int z.length,μ) else none
 |[.ref n]=>λμ=>match μ[n]? with
  |some (.lst ds)=>some (.int ds.length,μ)
  |_=>none
 |[d]=>bnd (Co d) λds=>ret (.int ds.length)
 |_=>BK
theorem FY:Bh X (.builtin "len") (rMA X.kw DE):=λpins s σ H xs us Q I r h=>by
 obtain⟨ι,μ,as,d,μ',R,ia,e,q⟩:=h;refine UM pins s σ H xs us Q I r ?_;unfold DE at e;split at e
 ·rename_i z;obtain⟨v,rfl,i1⟩:=Gq ia;split at e
  ·rename_i hl;cases e;cases DP i1;exact⟨_,_,rfl,⟨hl,rfl⟩,q ι H R.ext0 R _ (ofI _)⟩
  ·cases e
 ·rename_i n;obtain⟨v,rfl,i1⟩:=Gq ia;unfold Is at i1;obtain⟨_,rfl⟩:=i1;split at e
  ·rename_i ds hq;cases e;obtain⟨u,h1,vs,rfl,h2⟩:=R.obj n _ hq;exact⟨_,_,rfl,.inl ⟨vs,SqL.of h1,rfl⟩,by rw[h2.length];exact q ι H R.ext0 R _ (ofI _)⟩
  ·cases e
 ·obtain⟨v,rfl,i1⟩:=Gq ia;obtain⟨ds,μ1,e1,e2⟩:=AL e;obtain⟨hm,p,vs,rfl,h1,h2⟩:=CV R i1 e1;subst hm;cases e2;rw[←h2.length] at q;rcases h1 with h1|h1
  ·exact⟨_,_,rfl,.inl ⟨vs,h1,rfl⟩,q ι H R.ext0 R _ (ofI _)⟩
  ·exact⟨_,_,rfl,.inr ⟨vs,h1,rfl⟩,q ι H R.ext0 R _ (ofI _)⟩
 ·cases e
noncomputable def Mv(ds:List D)(lo hi:Option Int):List D:=(ds.drop (HT.sIx ds.length 0 lo)).take (HT.sIx ds.length ds.length hi-HT.sIx ds.length 0 lo)
noncomputable def Zm(lo hi:Option Int):D->M D
 | .tup ds=>if HT.sIx ds.length 0 lo=0/\HT.sIx ds.length ds.length hi=ds.length then BK else ret (.tup (Mv ds lo hi))
 |d=>bnd (DC d) λds=>ret (.lst (Mv ds lo hi))
noncomputable def rMS(K:KW):V->Option Int->Option Int->Hp->VK->Prop:=λx lo hi H Q=>∃ι μ a d μ',RelH K ι μ H/\Is K ι μ.length H a x/\Zm lo hi a μ=some (d,μ') /\
 Aft K ι μ H μ' λι' H'=>∀v,Is K ι' μ'.length H' d v->Q v H'
theorem PQ{K:KW}{ι:Nat->Addr}{μ:Mh}{vs:List V}{Q:VK}(R:RelH K ι μ H)(i:IsL K ι μ.length H ds vs)(q:Aft K ι μ H μ λι' H'=>∀v,Is K ι' μ.length H' (.lst ds) v->Q v H')(p:Addr)(hp:H p=none):Q (.ref p) (upd H p (.lst vs)):=by
 obtain⟨E1,R1⟩:=R.laid (.lst vs) hp;have ho:∀n,n<μ.length->ι n≠p:=λn hn z=>by
  obtain⟨o,e,_⟩:=R.muts n hn;rw[z,hp] at e;cases e
 exact q ι _ E1 R1 _ (by unfold Is;exact⟨p,vs,rfl,BJ,ho,i.ext E1⟩)
theorem MQ{K:KW}{ι:Nat->Addr}{μ:Mh}{vs:List V}{Q:VK}(R:RelH K ι μ H)(i:IsL K ι μ.length H ds vs)(q:Aft K ι μ H μ λι' H'=>∀v,Is K ι' μ.length H' (.tup ds) v->Q v H')(p:Addr)(hp:H p=none):Q (.ref p) (upd H p (.tup vs)):=by
 obtain⟨E1,R1⟩:=R.laid (.tup vs) hp;exact q ι _ E1 R1 _ (by unfold Is;exact⟨p,vs,rfl,SqT.of BJ,i.ext E1⟩)
theorem bi:SlR X (rMS X.kw):=λpins s σ H x v vl vu lo hi sl Q I rx hs pl pu h=>by
 obtain⟨ι,μ,a,d,μ',R,ia,e,q⟩:=h;refine(SlR.or U4 Xk) pins s σ H x v vl vu lo hi sl Q I rx hs pl pu ?_;unfold Zm at e;split at e
 ·rename_i ds;unfold Is at ia;obtain⟨p,vs,rfl,h1,h2⟩:=ia;split at e
  ·cases e
  ·rename_i hc;cases e;exact .inr ⟨p,vs,rfl,h1,by rw[h2.length];exact hc,λp hp=>MQ R (UE h2) q p hp⟩
 ·obtain⟨ds,μ1,e1,e2⟩:=AL e;obtain⟨hm,p,vs,rfl,h1,h2⟩:=Bw R ia e1;subst hm;cases e2;exact .inl ⟨p,vs,rfl,h1,λp hp=>PQ R (UE h2) q p hp⟩
noncomputable def BD:Sl->M (Option Int):=λ_=>ret none
noncomputable def asI:D->M (Option Int)
 | .int i=>ret (some i)
 |_=>BK
noncomputable def Ba(m:Sl->M D):Sl->M (Option Int):=λτ=>bnd (m τ) asI
noncomputable def tPt(K:KW)(m:Sl->M (Option Int)):TO:=λσ H Q=>∃ι μ τ b μ',RelH K ι μ H/\RelS K ι μ.length H τ σ/\m τ μ=some (b,μ')/\Aft K ι μ H μ' λ_ H'=>Q b H'
structure RO(X:Cx)(e:Option Expr)(m:Sl->M (Option Int)):Prop where
 pe:PO X e (tPt X.kw m)
theorem PO.wk(h:PO X e t)(w:∀σ H Q,t' σ H Q->t σ H Q):PO X e t':=λpins s σ H Q I q=>h pins s σ H Q I (w σ H Q q)
theorem RO.wk(h:PO X e t)(w:∀σ H Q,tPt X.kw m σ H Q->t σ H Q):RO X e m:=⟨PO.wk h w⟩
theorem A4:RO X none BD:=RO.wk Va λσ H Q h=>by
 obtain⟨ι,μ,τ,b,μ',R,S,e,q⟩:=h;cases e;exact q ι H R.ext0 R
theorem A3(h:RE X e m):RO X (some e) (Ba m):=RO.wk (VZ h.pe) λσ H Q h=>by
 obtain⟨ι,μ,τ,b,μ',R,S,e,q⟩:=h;obtain⟨x,μ1,e1,e⟩:=AL e;refine⟨ι,μ,τ,x,μ1,R,S,e1,λι1 H1 E1 R1 v i1=>?_⟩;cases x with
 |int i=>cases e;exact⟨i,BX i1,q ι1 H1 E1 R1⟩
 |_=>cases e
noncomputable def tyD(μ:Mh):D->Option String
 | .non=>some "NoneType"
 | .bl _=>some "bool"
 | .int _=>some "int"
 | .str _=>some "str"
 | .tup _=>some "tuple"
 | .lst _=>some "list"
 | .scr _=>none
 | .ref n=>match μ[n]? with
  |some (.lst _)=>some "list"
  |some (.dK _)=>some "dict"
  |some (.dC _)=>none
  |some (.ins _ _)=>none
  |some (.dP _)=>none
  |none=>none
 | .ty _=>none
noncomputable def PX(t T:String):Option Bool:=
 if t∈["NoneType", "bool", "int", "str", "tuple", "list", "dict"]/\T∈["bool", "int", "str", "tuple", "list", "dict"] then some (t==T||(t == "bool" && T == "int")) else none
theorem V0(h:PX t T=some b):PySem.W.kitOne K (.type t) (.type T)=some b:=by
 unfold PX at h;split at h
 ·rename_i hm;obtain⟨h1,h2⟩:=hm;simp only[AAJ,List.not_mem_nil,or_false] at h1 h2;rcases h1 with rfl|rfl|rfl|rfl|rfl|rfl|rfl<;>rcases h2 with rfl|rfl|rfl|rfl|rfl|rfl<;>(cases h;kernel_rfl)
 ·cases h
noncomputable def MX:List D->M D
 |[a,.ty T]=>λμ=>match tyD μ a with
  |some t=>(PX t T).map λb=>(.bl b,μ)
  |none=>none
 |_=>BK
theorem OE:Bh X (.builtin "isinstance") (rMA X.kw MX):=λpins s σ H xs us Q I r h=>by
 obtain⟨ι,μ,as,d,μ',R,ia,e,q⟩:=h;unfold MX at e;split at e
 ·rename_i a T;obtain⟨v,v',rfl,i1,i2⟩:=To ia;cases aB i2;split at e
  ·rename_i t ht;cases hk:PX t T with
   |none=>rw[hk] at e;cases e
   |some b=>
    rw[hk] at e;cases e;have kit:=V0 (K:=X.kw) hk;have fin:=q ι H R.ext0 R _ (ofB b);have byTy:GS X.kw H v (.type t)->wpAny (model X.prog X.w) X.A (call (.builtin "isinstance") us) (EP X pins σ Q) X.xe s:=λty=>
     M3 pins s σ H _ us Q I r ⟨v,T,_,b,rfl,ty,kit,fin⟩
    cases a with
    |non=>cases ht;cases N0 i1;exact byTy .non
    |bl x=>cases ht;cases Wz i1;exact byTy (.bl x)
    |int x=>cases ht;cases BX i1;exact byTy (.int x)
    |str x=>cases ht;cases DP i1;exact byTy (.str x)
    |ty n=>cases ht
    |lst ds=>cases ht;unfold Is at i1;obtain⟨p,vs,rfl,h1,_⟩:=i1;exact byTy (.lst h1)
    |scr ns=>cases ht
    |ref n=>
     unfold Is at i1;obtain⟨_,rfl⟩:=i1;have ht:(match μ[n]? with|some (.lst _)=>some "list" |some (.dK _)=>some "dict" |some (.dC _)=>none|some (.ins _ _)=>none|some (.dP _)=>none|none=>none)=some t:=ht;split at ht
     ·rename_i ds hq;cases ht;obtain⟨u,h1,vs,rfl,h2⟩:=R.obj n _ hq;exact byTy (.lst h1)
     ·rename_i ds hq;cases ht;obtain⟨u,h1,vs,rfl,h2⟩:=R.obj n _ hq;exact byTy (.dK h1)
     ·cases ht
     ·cases ht
     ·cases ht
     ·cases ht
    |tup ds=>
     cases ht;unfold Is at i1;obtain⟨p,vs,rfl,h1,h2⟩:=i1;obtain⟨its,_,⟨o,g1,g2,_⟩,_⟩:=I.tuple h1;obtain⟨u1,u2,rfl,r1,r2⟩:=Vals.two r;cases r1;cases r2;exact PySem.W.kia_one PySem.W.kitx_tuple I.kIn ⟨o,g1,g2⟩ kit (λz=>nomatch z) λtk=>⟨.bl b,H,I.tok _,rfl,fin⟩
  ·cases e
 ·cases e
noncomputable def Qi:List D->M D
 |[.int i,.int j]=>ret (.int (if j > i then j else i))
 |_=>BK
noncomputable def Vw:List D->M D
 |[.int i,.int j]=>ret (.int (if j<i then j else i))
 |_=>BK
theorem UO(hc:X.calm=true):Bh X (.builtin "max") (rMA X.kw Qi):=λpins s σ H xs us Q I r h=>by
 obtain⟨ι,μ,as,d,μ',R,ia,e,q⟩:=h;refine Q8 hc pins s σ H xs us Q I r ?_;unfold Qi at e;split at e
 ·obtain⟨v,w,rfl,i1,i2⟩:=To ia;cases e;cases BX i1;cases BX i2;exact⟨_,_,rfl,q ι H R.ext0 R _ (ofI _)⟩
 ·cases e
theorem aV(hc:X.calm=true):Bh X (.builtin "min") (rMA X.kw Vw):=λpins s σ H xs us Q I r h=>by
 obtain⟨ι,μ,as,d,μ',R,ia,e,q⟩:=h;refine Q7 hc pins s σ H xs us Q I r ?_;unfold Vw at e;split at e
 ·obtain⟨v,w,rfl,i1,i2⟩:=To ia;cases e;cases BX i1;cases BX i2;exact⟨_,_,rfl,q ι H R.ext0 R _ (ofI _)⟩
 ·cases e
noncomputable def C2:List D->M D
 |[.tup ds]=>ret (.tup ds)
 |[d]=>bnd (DC d) λds=>ret (.tup ds)
 |_=>BK
theorem C1:Bh X (.type "tuple") (rMA X.kw C2):=λpins s σ H xs us Q I r h=>by
 obtain⟨ι,μ,as,d,μ',R,ia,e,q⟩:=h;unfold C2 at e;split at e
 ·obtain⟨v,rfl,i1⟩:=Gq ia;cases e;have i2:=i1;unfold Is at i1;obtain⟨p,vs,rfl,h1,h2⟩:=i1;exact M1 pins s σ H _ us Q I r ⟨p,vs,rfl,h1,q ι H R.ext0 R _ i2⟩
 ·obtain⟨v,rfl,i1⟩:=Gq ia;obtain⟨ds,μ1,e1,e2⟩:=AL e;obtain⟨hm,p,vs,rfl,h1,h2⟩:=Bw R i1 e1;subst hm;cases e2;obtain⟨u,rfl,ru⟩:=Vals.one r;cases ru;obtain⟨its,rv,pl,hz⟩:=I.list h1;refine PySem.call_tuple_list pl.isList (λh' hk=>?_) (by rw[List.size_toArray,←rv.length];exact hz);have I1:Inv X pins σ H { s with heap:=h' }:=I.kept (t':=s.toks) hk;have I2:Inv X pins σ (upd H h'.objs.size (.tup vs)) { s with heap:=h'.push { cls:=.type "tuple",data:=.seq its.toArray } }:=I1.laid (t':=s.toks) (o:=.tup vs) (λb ob q=>AAC _ q) (AAF _) ⟨hz,its,rv,PyProof.Rows.IsTup.new _ _⟩;exact⟨.ref h'.objs.size,_,I2,rfl,MQ R h2 q _ (I1.hok.fresh (AAF _))⟩
 ·cases e
end
section
variable{X:Cx}{e a b c o i f:Expr}{es:List Expr}{pos apos cpos:Pos}
theorem SA(h:tE K (K3 g g' ma mb mc) σ H Q):SB (rM K g) (rM K g') (tE K ma) (tE K mb) (tE K mc) σ H Q:=by
 obtain⟨ι,μ,τ,d,μ',R,S,e,q⟩:=h;obtain⟨x,μ1,e1,ee1⟩:=AL e;obtain⟨y,μ2,e2,ee2⟩:=AL ee1;obtain⟨z,μ3,e3,ee3⟩:=AL ee2;obtain⟨k,μ4,e4,ee4⟩:=AL ee3;obtain⟨hz,hm⟩:=GP e4;subst hm;subst hz;refine⟨ι,μ,τ,x,μ1,R,S,e1,λι1 H1 E1 R1 v1 i1=>⟨ι1,μ1,τ,y,μ2,R1,S.ext E1,e2,λι2 H2 E2 R2 v2 i2=>?_⟩⟩;refine⟨ι2,μ2,x,y,_,_,R2,i1.ext E2,i2,e3,λι3 H3 E3 R3 v3 i3=>⟨k,Wz i3,?_⟩⟩;have E13:=(E1.trans E2).trans E3;cases k with
 |false=>cases ee4;exact q ι3 H3 E13 R3 _ (ofB _)
 |true=>
  obtain⟨w,μ5,e5,ee5⟩:=AL ee4;exact⟨ι3,_,τ,w,μ5,R3,S.ext E13,e5,λι4 H4 E4 R4 v4 i4=>⟨ι4,μ5,y,w,d,μ',R4,i2.ext (E3.trans E4),i4,ee5,λι5 H5 E5 R5=>q ι5 H5 ((E13.trans E4).trans E5) R5⟩⟩
theorem L7(ho:OpR X (compareOp op) (rM X.kw g))(ho':OpR X (compareOp op') (rM X.kw g'))(ha:RE X a ma)(hb:RE X b mb)(hc:RE X c mc)(hm:lastMarks [op,op'] [b,c]=false:=by with_unfolding_all rfl):
  RE X (.Compare a [op,op'] [b,c] pos) (K3 g g' ma mb mc):=RE.wk (TJ ho ho' ha.pe hb.pe hc.pe hm) λ_ _ _ h=>SA h
theorem Ks(hm:X.mg x=none)(hv:bootBuiltins x=some (.type n))(hg:Gl X x:=by rfl)(hn:x ≠ "__name__" := by decide)(hdb:(x==("__debug__" : Str))=false:=by decide):RE X (.Name x pos) (mC (.ty n)):=
 QP (t:=λ_ _ _=>True) (Vk (v:=.ty n) hg hm hv rfl hn hdb) λ_ _ _=>by unfold Is;rfl
noncomputable def Fh(d:D):M Unit:=bnd (DC d) λ_=>ret ()
noncomputable def Av(g:D->List D->M D)(mo:Sl->M D)(ma:Sl->M (List D)):Sl->M D:=λτ=>bnd (mo τ) λx=>bnd (Fh x) λ_=>bnd (ma τ) λxs=>g x xs
noncomputable def rMM(K:KW)(g:D->List D->M D):V->List V->Hp->VK->Prop:=λx xs H Q=>∃ι μ a as d μ',RelH K ι μ H/\Is K ι μ.length H a x/\IsL K ι μ.length H as xs/\g a as μ=some (d,μ') /\
 Aft K ι μ H μ' λι' H'=>∀v,Is K ι' μ'.length H' d v->Q v H'
theorem HM(R:RelH K ι μ H)(i:Is K ι μ.length H d v)(e:Fh d μ=some (u,μ')):μ'=μ/\tyV K "list" v H:=by
 obtain⟨ds,μ1,e1,ee1⟩:=AL e;cases ee1;obtain⟨hm,p,vs,rfl,h1,h2⟩:=Bw R i e1;exact⟨hm,.inl ⟨rfl,vs,h1⟩⟩
theorem Gv(e:Fh d μ=some (u,μ')):μ'=μ:=by
 obtain⟨ds,μ1,e1,ee1⟩:=AL e;cases ee1;cases d with
 |lst _=>cases e1;rfl
 |scr _=>cases e1;rfl
 |ref n=>
  have e1:(match μ[n]? with|some (.lst ds)=>some (ds,μ)|_=>none)=some (ds,μ'):=e1;split at e1
  ·cases e1;rfl
  ·cases e1
 |_=>cases e1
theorem R8(h:tE K (Av g mo ma) σ H Q):tBM K "list" (rMM K g) (tE K mo) (tL K ma) σ H Q:=by
 obtain⟨ι,μ,τ,d,μ',R,S,e,q⟩:=h;obtain⟨x,μ1,e1,ee1⟩:=AL e;obtain⟨u,μ2,e2,ee2⟩:=AL ee1;obtain⟨as,μ3,e3,ee3⟩:=AL ee2;have hm:=Gv e2;subst hm;refine⟨ι,μ,τ,x,_,R,S,e1,λι1 H1 E1 R1 v1 i1=>⟨(HM R1 i1 e2).2,?_⟩⟩;refine⟨ι1,_,τ,as,μ3,R1,S.ext E1,e3,λι2 H2 E2 R2 vs i2=>?_⟩;exact⟨ι2,μ3,x,as,d,μ',R2,i1.ext E2,i2,ee3,λι3 H3 E3 R3=>q ι3 H3 ((E1.trans E2).trans E3) R3⟩
theorem Ai{name:Str}{id:String}(slot:Slot "list" name id)(hty:typeOf (.builtin id)=pure (.type "method_descriptor"))(hm:MtR X id (rMM X.kw g))(ho:RE X o mo)(ha:RA X (e::es) ma)
  (hbase:attributeBase o name X.env (eval o X.env)=eval o X.env:=by rfl)
  (hfew:((backTo cpos (starEach (e::es) X.env)).all (λx=>!x.1)&&(backToKw cpos (keywordEach [] X.env)).all (λx=>x.1.isSome)
   && decide ((e::es).length+([]:List Keyword).length+(if ([]:List Keyword).isEmpty then 0 else 1)<30))=true:=by rfl)
  (hline:(apos.endLine==cpos.line)=true:=by rfl) (hs:starEach (e::es) X.env=(false,eval e X.env)::starEach es X.env:=by exact As rfl) (hplain:(backTo cpos (starEach es X.env)).any (·.1)=false:=by exact BU rfl) :
  RE X (.Call (.Attribute o name apos) (e::es) [] cpos) (Av g mo ma):=RE.wk (Zv PySem.F.plainAttrs_list slot hty hm ho.pe ha.pe hbase hfew hline hs hplain) λ_ _ _ h=>R8 h
noncomputable def NP(n:Nat)(k:List D->Option (D×List D)):M D:=λμ=>match μ[n]? with
 |some (.lst ds)=>(k ds).map λr=>(r.1,μ.set n (.lst r.2))
 |_=>none
theorem GY(e:NP n k μ=some (d,μ')):∃ds es,μ[n]?=some (.lst ds)/\k ds=some (d,es)/\μ'=μ.set n (.lst es):=by
 unfold NP at e;split at e
 ·rename_i ds hq;cases hk:k ds with
  |none=>rw[hk] at e;cases e
  |some r=>rw[hk] at e;cases e;exact⟨ds,r.2,hq,hk,rfl⟩
 ·cases e
theorem Kf{K:KW}{ι:Nat->Addr}{μ:Mh}{H:Hp}{n:Nat}{d:D}{es:List D}{ws:List V}{v:V}{Q:VK}{ds:List D}(R:RelH K ι μ H)(hn:μ[n]?=some (.lst ds))(iw:IsL K ι μ.length H es ws)(iv:Is K ι μ.length H d v)
  (q:Aft K ι μ H (μ.set n (.lst es)) λι' H'=>∀v,Is K ι' (μ.set n (.lst es)).length H' d v->Q v H'):Q v (upd H (ι n) (.lst ws)):=by
 have hlt:n<μ.length:=(AAU.mp hn).1;obtain⟨E1,R1⟩:=R.changed (m:=.lst es) (o:=.lst ws) hlt ⟨ws,rfl,iw⟩;exact q ι _ E1 R1 v (iv.ext E1)
noncomputable def Bk:D->List D->M D
 | .ref n,[d]=>NP n λds=>if ds.length<sizeLine then some (.non,ds++[d]) else none
 |_,_=>BK
theorem Am:MtR X "list.append" (rMM X.kw Bk):=λpins s σ H x xs v us Q I rx rs h=>by
 obtain⟨ι,μ,a,as,d,μ',R,ia,ib,e,q⟩:=h;unfold Bk at e;split at e
 ·rename_i n y;obtain⟨ds,es,h1,h2,rfl⟩:=GY e;split at h2
  ·rename_i hl;cases h2;obtain⟨w,rfl,iw⟩:=Gq ib;unfold Is at ia;obtain⟨_,rfl⟩:=ia;obtain⟨u,g1,vs,rfl,g2⟩:=R.obj n _ h1;exact Qh pins s σ H _ _ v us Q I rx rs ⟨_,vs,w,rfl,rfl,g1,by rw[g2.length];exact hl,Kf R h1 (g2.append (.one iw)) ofN q⟩
  ·cases h2
 ·cases e
noncomputable def T3:D->List D->M D
 | .ref n,[.lst zs]=>NP n λds=>if ds.length+zs.length<=sizeLine then some (.non,ds++zs) else none
 |_,_=>BK
theorem IR:MtR X "list.extend" (rMM X.kw T3):=λpins s σ H x xs v us Q I rx rs h=>by
 obtain⟨ι,μ,a,as,d,μ',R,ia,ib,e,q⟩:=h;unfold T3 at e;split at e
 ·rename_i n zs;obtain⟨ds,es,h1,h2,rfl⟩:=GY e;split at h2
  ·rename_i hl;cases h2;obtain⟨w,rfl,iw⟩:=Gq ib;unfold Is at ia iw;obtain⟨_,rfl⟩:=ia;obtain⟨p,ws,rfl,k1,_,k2⟩:=iw;obtain⟨u,g1,vs,rfl,g2⟩:=R.obj n _ h1;exact Qg pins s σ H _ _ v us Q I rx rs ⟨_,p,vs,ws,rfl,rfl,g1,k1,by rw[g2.length,k2.length];exact hl,Kf R h1 (g2.append k2) ofN q⟩
  ·cases h2
 ·cases e
noncomputable def K8:D->Option Key
 | .int i=>some (.inl i)
 | .str x=>some (.inr x)
 |_=>none
noncomputable def Bq:D->M (Nat×List (Key×D))
 | .ref n=>λμ=>match μ[n]? with
  |some (.dK l)=>some ((n,l),μ)
  |_=>none
 |_=>BK
noncomputable def Hl(l:List (Key×D))(k:Key):Option D:=(l.find? λkv=>decide (kv.1=k)).map (·.2)
noncomputable def JP(l:List (Key×D))(k:Key)(d:D):List (Key×D):=
 if (l.any λkv=>decide (kv.1=k))=true then l.map (λkv=>if kv.1=k then (kv.1,d) else kv) else l++[(k,d)]
noncomputable def Z7:Sl->M D:=λ_ μ=>some (.ref μ.length,μ++[.dK []])
theorem VM:RE X (.Dict [] [] pos) Z7:=RE.wk TF λσ H Q h=>by
 obtain⟨ι,μ,τ,d,μ',R,S,e,q⟩:=h;cases e;intro p hp;obtain⟨ι',E1,R1,e0⟩:=R.grown (m:=.dK []) (o:=.dK []) hp ⟨[],rfl,rfl⟩;exact q ι' _ E1 R1 _ (by unfold Is;exact⟨by simp,by rw[e0]⟩)
section
variable{K:KW}{ι:Nat->Addr}{k:Nat}{H:Hp}
theorem KVs.val:∀{l:List (Key×D)} {r:List (Key×V)} (y:Key),KVs K ι k H l r->(Hl l y=none/\Fa r y=none)∨∃d v,Hl l y=some d/\Fa r y=some v/\Is K ι k H d v
 |[],_,y,h=>by cases h;exact .inl ⟨rfl,rfl⟩
 |(z,d)::l,_,y,h=>by
  obtain⟨v,r',rfl,h1,h2⟩:=h;by_cases hz:z=y
  ·subst hz;exact .inr ⟨d,v,by simp[Hl],by simp[Fa],h1⟩
  ·have:=KVs.val y h2;simpa[Hl,Fa,List.find?_cons,hz] using this
theorem KVs.any:∀{l:List (Key×D)} {r:List (Key×V)} (y:Key),KVs K ι k H l r->(l.any λkv=>decide (kv.1=y))=(r.any λkv=>decide (kv.1=y))
 |[],_,y,h=>by cases h;rfl
 |(z,d)::l,_,y,h=>by
  obtain⟨v,r',rfl,h1,h2⟩:=h;rw[List.any_cons,List.any_cons,KVs.any y h2]
theorem KVs.length:∀{l:List (Key×D)} {r:List (Key×V)},KVs K ι k H l r->r.length=l.length
 |[],_,h=>by cases h;rfl
 |(z,d)::l,_,h=>by
  obtain⟨v,r',rfl,h1,h2⟩:=h;rw[AAI,AAI,KVs.length h2]
theorem KVs.app:∀{l:List (Key×D)} {r:List (Key×V)} {y:Key} {d:D} {v:V},KVs K ι k H l r->Is K ι k H d v->KVs K ι k H (l++[(y,d)]) (r++[(y,v)])
 |[],_,y,d,v,h,h1=>by cases h;exact⟨v,[],rfl,h1,rfl⟩
 |(z,e)::l,_,y,d,v,h,h1=>by
  obtain⟨w,r',rfl,h2,h3⟩:=h;exact⟨w,_,rfl,h2,KVs.app h3 h1⟩
theorem KVs.mapPut:∀{l:List (Key×D)} {r:List (Key×V)} {y:Key} {d:D} {v:V},KVs K ι k H l r->Is K ι k H d v->KVs K ι k H (l.map λkv=>if kv.1=y then (kv.1,d) else kv) (r.map λkv=>if kv.1=y then (kv.1,v) else kv)
 |[],_,y,d,v,h,h1=>by cases h;rfl
 |(z,e)::l,_,y,d,v,h,h1=>by
  obtain⟨w,r',rfl,h2,h3⟩:=h;rw[AAX,AAX];by_cases hz:z=y
  ·subst hz;simp only[if_true];exact⟨v,_,rfl,h1,KVs.mapPut h3 h1⟩
  ·simp only[hz,if_false];exact⟨w,_,rfl,h2,KVs.mapPut h3 h1⟩
theorem KVs.put(h:KVs K ι k H l r)(h1:Is K ι k H d v):KVs K ι k H (JP l y d) (Ds r y v):=by
 unfold JP Ds;rw[h.any y];split
 ·exact h.mapPut h1
 ·exact h.app h1
theorem K7(h:Is K ι k H d v)(e:K8 d=some y):v=kV y:=by
 cases d with
 |int i=>cases e;unfold Is at h;exact h
 |str i=>cases e;unfold Is at h;exact h
 |_=>cases e
theorem Cg(R:RelH K ι μ H)(i:Is K ι μ.length H d v)(e:Bq d μ=some (r,μ')):μ'=μ/\d=.ref r.1/\μ[r.1]?=some (.dK r.2)/\v=.ref (ι r.1)/\∃kvs,H (ι r.1)=some (.dK kvs)/\KVs K ι μ.length H r.2 kvs:=by
 cases d with
 |ref n=>
  have e:(match μ[n]? with|some (.dK l)=>some ((n,l),μ)|_=>none)=some (r,μ'):=e;split at e
  ·rename_i l hq;cases e;unfold Is at i;obtain⟨u,h1,kvs,rfl,h2⟩:=R.obj n _ hq;exact⟨rfl,rfl,hq,i.2,kvs,h1,h2⟩
  ·cases e
 |_=>cases e
end
noncomputable def Io(d y:D):M D:=bnd (Bq d) λr=>λμ=>((K8 y).bind (Hl r.2)).map λv=>(v,μ)
theorem Kr(hr:Room k X.A)(ho:RE X o mo)(hi:RE X i mi)(hs:RF i:=by exact λ_ _=>rfl):RE X (.Subscript o i pos) (mOp Io mo mi):=RE.wk (Vg (W6 hr) ho.pe hi.pe hs) λσ H Q h=>by
 obtain⟨ι,μ,τ,d,μ',R,S,e,q⟩:=h;obtain⟨x,μ1,e1,ee1⟩:=AL e;obtain⟨y,μ2,e2,ee2⟩:=AL ee1;obtain⟨r,μ3,e3,ee3⟩:=AL ee2;refine⟨ι,μ,τ,x,μ1,R,S,e1,λι1 H1 E1 R1 v1 i1=>⟨ι1,μ1,τ,y,μ2,R1,S.ext E1,e2,λι2 H2 E2 R2 v2 i2=>?_⟩⟩;obtain⟨hm,_,g1,rfl,kvs,g2,g3⟩:=Cg R2 (i1.ext E2) e3;subst hm;cases hk:K8 y with
 |none=>rw[hk] at ee3;cases ee3
 |some ky=>
  rw[hk] at ee3;cases K7 i2 hk;rcases g3.val ky with ⟨z1,_⟩|⟨dd,vv,z1,z2,z3⟩
  ·rw[Option.bind_some,z1] at ee3;cases ee3
  ·rw[Option.bind_some,z1] at ee3;cases ee3;exact⟨_,vv,rfl,by rw[←z2];exact DGet.k g2,q ι2 H2 (E1.trans E2) R2 vv z3⟩
noncomputable def IC(mo mi mv:Sl->M D):Sl->M (Fl×Sl):=λτ=>bnd (mv τ) λv=>bnd (mo τ) λx=>bnd (mi τ) λy=>bnd (Bq x) λr=>λμ=>match K8 y with
 |some k=>if r.2.length<sizeLine then some ((.next,τ),μ.set r.1 (.dK (JP r.2 k v))) else none
 |none=>none
theorem Ko(hr:Room k X.A)(ho:RE X o mo)(hi:RE X i mi)(hv:RE X value mv)(hs:swapsWith value (some (.Subscript o i pos')) pos.line X.env=pure false:=by rfl):RS X (.Assign [.Subscript o i pos'] value pos) (IC mo mi mv):=RS.wk (VX (W6 hr) ho.pe hi.pe hv.pe hs) λDn σ H h=>by
 obtain⟨ι,μ,τ,f,τ',μ',R,S,e,q⟩:=h;obtain⟨v,μ1,e1,ee1⟩:=AL e;obtain⟨x,μ2,e2,ee2⟩:=AL ee1;obtain⟨y,μ3,e3,ee3⟩:=AL ee2;obtain⟨r,μ4,e4,ee4⟩:=AL ee3;refine⟨ι,μ,τ,v,μ1,R,S,e1,λι1 H1 E1 R1 v1 i1=>⟨ι1,μ1,τ,x,μ2,R1,S.ext E1,e2,λι2 H2 E2 R2 v2 i2=>⟨ι2,μ2,τ,y,μ3,R2,S.ext (E1.trans E2),e3,λι3 H3 E3 R3 v3 i3=>?_⟩⟩⟩;obtain⟨hm,hx,g1,hv2,kvs,g2,g3⟩:=Cg R3 (i2.ext E3) e4;subst hm;have E13:=(E1.trans E2).trans E3;cases hk:K8 y with
 |none=>rw[hk] at ee4;cases ee4
 |some ky=>
  rw[hk] at ee4;have ee4:(if r.2.length<sizeLine then some ((Fl.next,τ),List.set μ4 r.1 (MO.dK (JP r.2 ky v))) else none)=some ((f,τ'),μ'):=ee4;split at ee4
  ·rename_i hl;cases ee4;cases K7 i3 hk;have hlt:r.1<List.length μ4:=(AAU.mp g1).1;obtain⟨E4,R4⟩:=R3.changed (m:=.dK (JP r.2 ky v)) (o:=.dK (Ds kvs ky v1)) hlt ⟨_,rfl,g3.put (i1.ext (E2.trans E3))⟩;exact⟨_,_,hv2,DPut.k g2 (by rw[g3.length];exact hl),q ι3 _ (E13.trans E4) R4 σ (S.ext (E13.trans E4))⟩
  ·cases ee4
noncomputable def GL:Nat->List D->List D
 |_,[]=>[]
 |k,d::ds=>.tup [.int k,d]::GL (k+1) ds
theorem KH:∀(k:Nat) (ds:List D),(GL k ds).length=ds.length
 |_,[]=>rfl
 |k,_::ds=>by unfold GL;simp[KH (k+1) ds]
theorem KI:∀(k:Nat) (ds:List D) (j:Nat),(GL k ds)[j]?=(ds[j]?).map λd=>.tup [.int ((k+j:Nat):Int),d]
 |_,[],j=>by simp[GL]
 |k,d::ds,0=>by simp[GL]
 |k,d::ds,j+1=>by
  unfold GL;rw[AAu,AAu,KI (k+1) ds j];have:k+1+j=k+(j+1):=by omega
  rw[this]
theorem Tk(st:∀ι' (μ':Mh) H',Ext ι μ.length H ι' μ'.length H'->RelH K ι' μ' H'->Cond K H')(i:IsL K ι μ.length H ds vs):
  ItM K (ItP K vs.length (GN vs) Cond) (GL 0 ds) ι μ H:=by
 intro ι' μ' H' E R;have h:=st ι' μ' H' E R;rw[KH,←i.length];refine⟨λj hj=>⟨hj,h⟩,⟨rfl,h⟩,λj x H2 d hd y=>?_⟩;obtain⟨T,hT,rfl,rfl⟩:=y;obtain⟨E2,R2⟩:=R.laid (.tup (GN vs j)) hT;refine⟨E2,R2,?_⟩;rw[KI] at hd;cases q:ds[j]? with
 |none=>rw[q] at hd;cases hd
 |some d0=>
  rw[q] at hd;cases hd;obtain⟨w,ew,iw⟩:=(i.ext E).get q;have e0:vs.getD j V.non=w:=by simp[List.getD,ew]
  have es:GN vs j=[.int j,w]:=by unfold GN;rw[e0]
  have key:IsL K ι' (List.length μ') (upd H' T (.tup (GN vs j))) [.int ((0+j:Nat):Int),d0] [.int j,w]:=.cons (by unfold Is;simp) (.one (iw.ext E2));unfold Is;exact⟨T,_,rfl,SqT.of BJ,(congrArg (IsL K ι' (List.length μ') (upd H' T (.tup (GN vs j))) [.int ((0+j:Nat):Int),d0]) es).mpr key⟩
end
theorem B2:bootBuiltins "len" = some (.builtin "len"):=by decide +kernel
theorem Cn:bootBuiltins "isinstance" = some (.builtin "isinstance"):=by decide +kernel
theorem JA:bootBuiltins "max" = some (.builtin "max"):=by decide +kernel
theorem US:bootBuiltins "min" = some (.builtin "min"):=by decide +kernel
theorem UT:bootBuiltins "int" = some (.type "int"):=by decide +kernel
theorem RC:bootBuiltins "bool" = some (.type "bool"):=by decide +kernel
theorem BQ:bootBuiltins "tuple" = some (.type "tuple"):=by decide +kernel
theorem Q9:bootBuiltins "list" = some (.type "list"):=by decide +kernel
theorem KO:bootBuiltins "dict" = some (.type "dict"):=by decide +kernel
theorem M5:bootBuiltins "set" = some (.type "set"):=by decide +kernel
structure Fn(P:Program)(w:World)(K:PySem.W.Frag)(mg:Str->Option Value)(base:Heap)(x:Str)(ps:List Str)(k:Nat)(φ:List D->M D):Prop where
 len:∀ds μ r,φ ds μ=some r->ds.length=ps.length
 ex:∃f fd,FnOk P w K mg base CX0 k f fd ps (spM ⟨K,w⟩ ps.length φ)/\mg x=some (.ref f)/\PySem.W.keepIn K (.ref f)=true/\Binds K fd ps []
def Glo(K:PySem.W.Frag)(mg:Str->Option Value)(x:Str)(d:D):Prop:=∃u v,mg x=some u/\RelV v u/\∀w ι k H,Is ⟨K,w⟩ ι k H d v
section
variable{X:Cx}{e:Expr}{es:List Expr}{pos p:Pos}
theorem Aa(F:Fn X.prog X.w X.kw X.mg X.base x ps k φ)(hr:Room j X.A)(ha:RA X (e::es) m)(hkj:k<=j:=by decide)(hg:Gl X x:=by rfl)(hdb:(x==("__debug__" : Str))=false:=by decide)
  (he:starEach (e::es) X.env=(false,eval e X.env)::starEach es X.env:=by exact As rfl) (hpl:(backTo pos (starEach es X.env)).any (·.1)=false:=by exact BU rfl):RE X (.Call (.Name x p) (e::es) [] pos) (BS φ m):=by
 obtain⟨len,f,fd,F,hm,hk,hb⟩:=F;exact VN F (hr.mono hkj) hm hk hb len ha hg hdb he hpl
theorem Bo(h:Glo X.kw X.mg x d)(hg:Gl X x:=by rfl)(hdb:(x==("__debug__" : Str))=false:=by decide):RE X (.Name x pos) (mC d):=by
 obtain⟨u,v,hm,r,hd⟩:=h;exact VJ hm r (hd _) hg hdb
end
section
variable{X:Cx}{e i:Expr}{pos p:Pos}
structure Yu(w:World)(K:PySem.W.Frag)(mg:Str->Option Value)(x:Str)(t:Str->Option D):Prop where
 ex:∃ad,mg x=some (.ref ad)/\∀y:Str,∃r,KGet w.params K ad (.str y) r/\((t y=none/\r=none)∨∃d v,t y=some d/\r=some v/\∀ι k H,Is ⟨K,w⟩ ι k H d v)
noncomputable def Wx(t:Str->Option D):D->M D
 | .str y=>λμ=>(t y).map λd=>(d,μ)
 |_=>BK
theorem VI(k:Yu X.w X.kw X.mg x t)(hi:RE X i mi)(hg:Gl X x:=by rfl)(hdb:(x==("__debug__" : Str))=false:=by decide)(hs:RF i:=by exact λ_ _=>rfl):RE X (.Subscript (.Name x p) i pos) (mUn (Wx t) mi):=by
 obtain⟨ad,hm,kk⟩:=k;refine RE.wk (Ve (O9 (v:=.ref ad) hg hm rfl hdb) hi.pe hs) λσ H Q h=>?_;obtain⟨ι,μ,τ,d,μ',R,S,e,q⟩:=h;obtain⟨y,μ1,e1,e2⟩:=AL e;refine⟨ι,μ,τ,y,μ1,R,S,e1,λι1 H1 E1 R1 v1 i1=>?_⟩;cases y with
 |str y=>
  cases DP i1;obtain⟨r,g,z⟩:=kk y;rcases z with ⟨z1,_⟩|⟨d0,v0,z1,rfl,z3⟩
  ·have e3:(t y).map (λd=>(d,μ1))=some (d,μ'):=e2;rw[z1] at e3;cases e3
  ·have e3:(t y).map (λd=>(d,μ1))=some (d,μ'):=e2;rw[z1] at e3;cases e3;exact⟨ad,v0,rfl,g,q ι1 H1 E1 R1 v0 (z3 _ _ _)⟩
 |_=>cases e2
end
end Mi
namespace L2
open PySem PySem.Spec PyProof.Rows Sem
section
variable{prog:Program}{w:World}{A:Around}{E:Value->Shared->Prop}{s:Shared}
theorem BF[Decidable c](h:¬c)(hb:wpAny M A b Q E s):wpAny M A (if c then a else b) Q E s:=by
 rw[if_neg h];exact hb
theorem La(hh:A.handled=none)(hit:s.heap.IsTupleIter it t i)(ht:s.heap.IsTuple t items)
  (more:∀x h',items[i]?=some x->h'.IsTupleIter it t (i+1)->Heap.SameBut it s.heap h'->Q x { s with heap:=h' })
  (over:items[i]?=none->∀h' e,Heap.ExtBut it s.heap h'->(∃o,h'.get? e=some o/\o.cls=.type "StopIteration")->E (.ref e) { s with heap:=h' }) :
  wpAny (model prog w) A (Builtin.SmallTypes.nextOf (.ref it)) Q E s:=by
 have ty:=hit.typeIs;obtain⟨o,at_it,hc,hd⟩:=hit;obtain⟨ot,at_t,_,n,hdt⟩:=ht;have put:∀(k:Nat) (v:Value),(s.heap.update it (Obj.mapFields (λfs=>fs.set! k v))).get? it=some (Obj.mapFields (λfs=>fs.set! k v) o):=λk v=>Heap.get?_update_self _ at_it (Obj.isFreed_of_fields (Obj.data_mapFields hd _));unfold Builtin.SmallTypes.nextOf;refine AAA (wpAny_callSpecial?_slot ty F.slot_tuple_iterator_next (AAd F.slot_tuple_iterator_next ty F.entry_tuple_iterator_next ?_ (F.args_tuple_iterator_next_1 _)));have notNone:¬(Value.ref t==Value.none)=true:=AAg;refine AAA (m:=field (.ref it) 0) (AAx at_it hd (x:=.ref t) rfl ?_);refine BF notNone ?_;refine AAA (m:=field (.ref it) 1) (AAx at_it hd (x:=.int i 0) rfl (AAA (m:=seqItems? (.ref t)) (AAy at_t hdt ?_)));have ei:((i:Int)).toNat=i:=Int.toNat_natCast i;cases hx:items[i]? with
 |some x=>
  dsimp only;rw[ei,hx];refine AAA (wpAny_setField at_it hd (by simp) (AAB ⟨x,rfl,AAB (more x _ hx ⟨_,put _ _,?_,?_⟩ (Heap.SameBut.update ..))⟩))
  ·exact(Obj.cls_mapFields ..).trans hc
  ·rw[Obj.data_mapFields hd];rfl
 |none=>
  dsimp only;rw[ei,hx];refine AAA (wpAny_rule (AAA (wpAny_setField at_it hd (by simp) ?_)));have first:firstArgMember (.type "StopIteration") []=pure Value.none:=by first|rfl|(unfold firstArgMember;rfl)
  unfold Builtin.SmallTypes.stopIteration newExc newTuple;refine AAA (AAA (AAq (AAA (AAw first (AAq (wpAny_raiseNew_none hh ?_) (by size_fits)))) (by size_fits)));exact over hx _ _ (((Heap.SameBut.update ..).extBut.push _).push _) ⟨_,AAD _ rfl,rfl⟩
theorem E9(hh:A.handled=none)(it t:Addr)(hne:t≠it)(items:Array Value):
  Draws prog w A it [it,t] items.size (λi v=>items[i]?=some v) (λi h=>h.IsTupleIter it t i/\h.IsTuple t items):=by
 refine⟨λi h st=>?_,λi h h' st k=>⟨?_,?_⟩,λi s Q E hi st q=>?_,λs Q E st q=>?_⟩
 ·obtain⟨⟨o,e,_⟩,_⟩:=st;exact⟨o,e⟩
 ·obtain⟨⟨o,e,r⟩,_⟩:=st;exact⟨o,k it (by simp) o e,r⟩
 ·obtain⟨_,⟨o,e,r⟩⟩:=st;exact⟨o,k t (by simp) o e,r⟩
 ·exact La hh st.1 st.2 (λx h' hx st' sb=>q x h' s.toks hx ⟨st',st.2.extBut sb.extBut hne⟩ sb) λno=>absurd no (by simp[hi])
 ·exact La hh st.1 st.2 (λx h' hx=>absurd hx (by simp)) λ_ h' e eb so=>q h' e eb so
noncomputable abbrev GJ(it:Addr):Obj:={ cls:=.type "enumerate",data:=.fields #[.none,.bool false,.ref it,rawInt 0,.none,.none] }
theorem T5(v:Value)(ob:Obj)(good:Heap->Prop)(hv:∀(prog:Program) (w:World) (A:Around) (E:Value->Shared->Prop) (s:Shared) (Q:Value->Shared->Prop),good s.heap->Q (.ref s.heap.objs.size) { s with heap:=s.heap.push ob }->wpAny (model prog w) A (pyIter v) Q E s):
  Meets (Builtin.«enumerate.__new__» ⟨[.type "enumerate",v],[]⟩) (λ_ R s=>good s.heap/\R (.ok (.ret (.ref (s.heap.push ob).objs.size))) { s with heap:=(s.heap.push ob).push (GJ s.heap.objs.size) }):=by
 refine .of_wp λprog w A R s ⟨g,q⟩=>?_;have own:=sub_enumerate;have walk:∀(A:Around) (E:Value->Shared->Prop) (Q:Value->Shared->Prop),Q (.ref s.heap.objs.size) { s with heap:=s.heap.push ob }->wpAny (model prog w) A (pyIter v) Q E s:=λA E Q z=>hv prog w A E s Q g z;obtain⟨hp,gs,dr,tk,os⟩:=s
 wp_walk
 refine wpAny_stack_any λst=>AAB ?_;split
 ·rename_i c _ _ _ _ _;cases (c==Value.type "enumerate")<;>(wp_walk using walk;exact⟨_,rfl,q⟩)
 ·wp_walk using walk
  exact⟨_,rfl,q⟩
end
end L2
namespace L2
open PySem PySem.Spec PyProof.Rows
theorem NS{P:Program}{w:World}{K:PySem.W.Frag}(a e it:Addr)(xs:List V)(hei:e≠it)(hea:e≠a)(hai:a≠it):
  LM P w K (.Tuple es k0 pos) (ItP K xs.length (GN xs) λK H=>SqT K H a xs) [e,it] e (λi h=>(∃old,IsEnum h e it i old)/\h.IsTupleIter it a i):=by
 refine Hm (ι:=List Value) (fp:=[e,it,a]) (Mid:=λits i T h=>(∃x,IsEnumOut h e it ((i:Int)+1) x T)/\(h.IsTupleIter it a (i+1)/\h.IsTuple a its.toArray)/\T≠e/\T≠it) (good:=λits=>Vals xs its) (Pt:=λits i vals=>∃t x,its.toArray[i]?=some x/\vals=#[.int i t,x]) (Sw:=λits i h=>(∃old,IsEnum h e it i old)/\h.IsTupleIter it a i/\h.IsTuple a its.toArray)
  (λA hA its r=>?walk) AAQ (λits i vals r h=>N7 r h) (λi=>(by show 2<=sizeLine;decide)) (λi h st=>?obj) (λi h h' st k=>?keep) (λX pins σ H s i hP hw hK I hc st=>?into) (λz i h st=>⟨st.1,st.2.1⟩) (λA i s Q E st h=>?self)
 case walk=>
  have hl:xs.length=its.toArray.size:=by rw[List.size_toArray];exact r.length
  have D:=E9 (prog:=P) (w:=w) (A:=A.in1) hA it a hai its.toArray;rw[hl];exact WalksT.enumerateD D e hei (by simp[hei,hea]) (by simp)
 case obj=>
  obtain⟨o,ho,_,hd⟩:=st.2;exact Yo st.1 ho ⟨_,hd⟩
 case keep=>
  obtain⟨⟨old,q⟩,o,ho,r⟩:=st;exact⟨⟨old,k e (by simp) _ q⟩,o,k it (by simp) o ho,r⟩
 case into=>
  subst hK;obtain⟨its,r,p,_⟩:=I.tuple hc;exact⟨its,r,st.1,st.2,p⟩
 case self=>exact WH (f:=λi h=>h.IsTupleIter it a i) A i s Q E st h
section
variable{X:Cx}{es:List Expr}{k0:Nat}{tpos:Pos}
noncomputable def Yg(K:PySem.W.Frag)(ta:TA):TI:=λσ H R=>ta σ H λvs H1=>∃a xs,vs=[.ref a]/\SqT K H1 a xs/\R (ItP K xs.length (GN xs) λK H=>SqT K H a xs) H1
theorem S6(hg:Gl X "enumerate")(hm:X.mg "enumerate" = none)(ha:PA X [a] ta)(hs:starEach [a] X.env=[(false,eval a X.env)]:=by rfl):PI X (.Tuple es k0 tpos) (.Call (.Name "enumerate" p) [a] [] pos) (Yg X.kw ta):=by
 intro pins s σ H R I h;refine Call_ (Em I hg hm RB (PyProof.Rows.callWith_type1 (thn (ha pos pins s σ H _ I h) λus s1 ⟨vs,H1,I1,r1,q1⟩=>?_) hs rfl));obtain⟨l,xs,ev,hq,q⟩:=q1;subst ev;obtain⟨u,eu,ru⟩:=Hi r1;subst eu;cases ru;obtain⟨its,rv,pl,hz⟩:=I1.tuple hq;have lt:l<s1.heap.objs.size:=by obtain⟨o,e,_⟩:=pl;exact Heap.lt_size e
 have new:=T5 (.ref l) { cls:=.type "tuple_iterator",data:=.fields #[.ref l,.int 0 0] } (λh=>h.IsTuple l its.toArray) (λ_ _ _ _ _ _ g z=>wpAny_pyIter_tuple g z);refine callType_new F.called_enumerate (by decide) (F.typeCall_enumerate_1 _) (F.newCall_enumerate_1 _) (λobj=>F.args_object_init_2 obj _) F.entry_enumerate_new new ⟨pl,?_⟩;generalize hG:s1.heap.push { cls:=.type "tuple_iterator",data:=.fields #[.ref l,.int 0 0] }=G;have hsz:G.objs.size=s1.heap.objs.size+1:=by rw[←hG];exact Heap.size_push ..
 have at_e:(G.push (GJ s1.heap.objs.size)).get? (s1.heap.objs.size+1)=some (GJ s1.heap.objs.size):=by rw[←hsz];exact AAD _ rfl
 have he:IsEnum (G.push (GJ s1.heap.objs.size)) (s1.heap.objs.size+1) s1.heap.objs.size 0 .none:=at_e;have at_i:(G.push (GJ s1.heap.objs.size)).IsTupleIter s1.heap.objs.size l 0:=⟨_,AAC _ (hG ▸ AAD _ rfl),rfl,rfl⟩;show _/\_;rw[hsz];refine⟨⟨_,at_e,rfl⟩,wpAny_pyIter_enum he ?_⟩;refine⟨s1.heap.objs.size+1,[s1.heap.objs.size+1,s1.heap.objs.size],λi h=>(∃old,IsEnum h (s1.heap.objs.size+1) s1.heap.objs.size i old)/\h.IsTupleIter s1.heap.objs.size l i,_,H1,rfl,I1.kept (t':=s1.toks) λb o x=>AAC _ (hG ▸ AAC _ x),?_,⟨⟨_,he⟩,at_i⟩,XZ I1,q⟩;exact NS l _ _ xs (Nat.succ_ne_self _) (Nat.ne_of_gt (AAh lt)) (AAe lt)
end
end L2
namespace Mi
open PySem L2
section
variable{X:Cx}{a:Expr}{es:List Expr}{pos:Pos}
noncomputable def Ru:List D->M (List D)
 |[.tup ds]=>ret ds
 |_=>BK
noncomputable def IS(m:Sl->M (List D)):Sl->M (List D):=λτ=>bnd (m τ) λas=>bnd (Ru as) λds=>ret (GL 0 ds)
theorem F2(hm:X.mg "enumerate" = none)(ha:RA X [a] m)(hg:Gl X "enumerate" := by rfl)(hs:starEach [a] X.env=[(false,eval a X.env)]:=by exact As rfl):RI X (.Tuple es k0 tpos) (.Call (.Name "enumerate" p) [a] [] pos) (IS m):=
 RI.wk (S6 hg hm ha.pe hs) λσ H R q=>by
  obtain⟨ι,μ,τ,ds,μ',R0,S,e,q⟩:=q;obtain⟨xs,μ1,e1,e2⟩:=AL e;obtain⟨zs,μ2,e3,e4⟩:=AL e2;cases e4;refine⟨ι,μ,τ,xs,μ1,R0,S,e1,λι1 H1 E1 R1 vs i1=>?_⟩;unfold Ru at e3;split at e3
  ·cases e3;obtain⟨v,rfl,i2⟩:=Gq i1;unfold Is at i2;obtain⟨p,ws,rfl,h1,h2⟩:=i2;exact⟨p,ws,rfl,h1,q ι1 H1 E1 R1 _ (Tk (λι' μ' H' E _=>Fr E h1) h2)⟩
  ·cases e3
end
end Mi
namespace L2
open PySem PySem.Spec PyProof.Rows Sem
def TwoAt(h:Heap)(T:Addr)(a b:Value):Prop:=∃n,h.get? T=some { cls:=.type "tuple",data:=.seq #[a,b] n }
noncomputable abbrev B6(TI TO:Addr)(f0:Value):Obj:={ cls:=.type "zip",data:=.fields #[f0,.bool false,.bool false,.ref TI,.ref TO] }
theorem TwoAt.keep(x:TwoAt h T a b)(k:∀o,h.get? T=some o->h'.get? T=some o):TwoAt h' T a b:=by
 obtain⟨n,e⟩:=x;exact⟨n,k _ e⟩
section
variable{prog:Program}{w:World}{A:Around}{E:Value->Shared->Prop}{s:Shared}
theorem Oa(t:TwoAt s.heap T a b)(sh:(#[a,b]:Array Value).setIfInBounds k x=#[c,d])(h:∀h',TwoAt h' T c d->Heap.SameBut T s.heap h'->Q () { s with heap:=h' }):
  wpAny (model prog w) A (updateSeq T λxs=>xs.setIfInBounds k x) Q E s:=by
 obtain⟨n,e⟩:=t;refine wpAny_updateSeq e rfl (h _ ⟨n,?_⟩ (Heap.SameBut.update ..)) (by simp[sizeLine]) (by simp[sizeLine]);rw[Heap.get?_update_self _ e rfl];show some ({ cls:=.type "tuple",data:=.seq ((#[a,b]:Array Value).setIfInBounds k x) (if (((#[a,b]:Array Value).setIfInBounds k x).size==(#[a,b]:Array Value).size)=true then n else n+1) }:Obj)=_;rw[sh];rfl
structure DS(z TI TO i1 i2:Addr)(f1 f2:List Addr):Prop where
 zTI:z≠TI
 zTO:z≠TO
 io:TI≠TO
 z1:z∉f1
 z2:z∉f2
 o1:TO∉f1
 o2:TO∉f2
 n1:TI≠i1
 n2:TI≠i2
 m1:i1∈f1
 m2:i2∈f2
 x12:i1∉f2
 x21:i2∉f1
theorem LV{z TI TO i1 i2:Addr}{n k:Nat}{a b:Value}{f1 f2:List Addr}{Q:Value->Shared->Prop}(ap:DS z TI TO i1 i2 f1 f2)
  (D1:Draws prog w A.in1 i1 f1 n P1 S1) (D2:Draws prog w A.in1 i2 f2 n P2 S2) (hk:k<n)
  (hz:s.heap.get? z=some (B6 TI TO .none)) (hI:TwoAt s.heap TI (.ref i1) (.ref i2)) (hO:TwoAt s.heap TO a b) (s1:S1 k s.heap) (s2:S2 k s.heap)
  (q:∀x y T h' tk,P1 k x->P2 k y->s.heap.objs.size<=T->h'.IsTuple T #[x,y]->h'.get? z=some (B6 TI TO (rawInt T))->TwoAt h' TI (.ref i1) (.ref i2)->TwoAt h' TO x y->S1 (k+1) h'->S2 (k+1) h'->(∀c o,c≠z->c≠TO->c≠i1->c≠i2->s.heap.get? c=some o->h'.get? c=some o)->Q (.ref T) { s with heap:=h',toks:=tk }) :
  wpAny (model prog w) A.in1 (Builtin.«zip.__next__» ⟨[.ref z],[]⟩) (λfin s'=>∃v,fin=.done (.ret v)/\Q v s') E s:=by
 obtain⟨nI,eI⟩:=id hI;refine AAA (m:=field (.ref z) 2) (AAx hz rfl (x:=.bool false) rfl ?_);refine AAA (m:=field (.ref z) 3) (AAx hz rfl (x:=.ref TI) rfl ?_);refine AAA (m:=seqItems? (.ref TI)) (AAy eI rfl ?_);refine BF (by simp) ?_;refine AAA (m:=Builtin.SmallTypes.ownedTupleIsFree (.ref z)) ?_;unfold Builtin.SmallTypes.ownedTupleIsFree;refine AAA (m:=field (.ref z) 0) (AAx hz rfl (x:=.none) rfl (AAB ?_));rw[if_pos rfl];refine AAA (wpAny_rule ?_);refine AAA (m:=field (.ref z) 4) (AAx hz rfl (x:=.ref TO) rfl ?_);refine AAA (AAp hz (by simp) λh1 z1 b1=>?_);have k1:∀c o,c≠z->s.heap.get? c=some o->h1.get? c=some o:=λc o hc e=>(b1.2 c hc).trans e;have z1':h1.get? z=some (B6 TI TO .ellipsis):=z1;have hI1:=hI.keep (h':=h1) λo e=>k1 TI o ap.zTI.symm e;have hO1:=hO.keep (h':=h1) λo e=>k1 TO o ap.zTO.symm e;have s11:=D1.frame _ _ h1 s1 λc hc o e=>k1 c o (λy=>ap.z1 (y ▸ hc)) e;have s21:=D2.frame _ _ h1 s2 λc hc o e=>k1 c o (λy=>ap.z2 (y ▸ hc)) e;refine AAA (m:=forIn [(Value.ref i1,0),(Value.ref i2,1)] _ _) ?_;rw[List.forIn_cons];refine AAA (AAA (wpAny_onRaise (AAA (D1.item k { s with heap:=h1 } _ _ hk s11 λx h2 t2 px s12 b2=>AAB ?_))));have k2:∀c o,c≠i1->h1.get? c=some o->h2.get? c=some o:=λc o hc e=>(b2.2 c hc).trans e;have ne1:∀{c:Addr},c∉f1->c≠i1:=λhc y=>hc (y ▸ ap.m1);have ne2:∀{c:Addr},c∉f2->c≠i2:=λhc y=>hc (y ▸ ap.m2);have hO2:=hO1.keep (h':=h2) λo e=>k2 TO o (ne1 ap.o1) e;have hI2:=hI1.keep (h':=h2) λo e=>k2 TI o ap.n1 e;have z2:=k2 z _ (ne1 ap.z1) z1';have s22:=D2.frame _ _ h2 s21 λc hc o e=>k2 c o (λy=>ap.x12 (y ▸ hc)) e;obtain⟨nO,eO⟩:=id hO2;refine AAA (m:=seqItems? (.ref TO)) (AAy eO rfl ?_);refine AAA (Oa (s:={ s with heap:=h2,toks:=t2 }) (c:=x) (d:=b) hO2 rfl λh3 hO3 b3=>AAA (wpAny_letGo (AAB ?_)));have k3:∀c o,c≠TO->h2.get? c=some o->h3.get? c=some o:=λc o hc e=>(b3.2 c hc).trans e;have hI3:=hI2.keep (h':=h3) λo e=>k3 TI o ap.io e;have z3:=k3 z _ ap.zTO z2;have s13:=D1.frame _ _ h3 s12 λc hc o e=>k3 c o (λy=>ap.o1 (y ▸ hc)) e;have s23:=D2.frame _ _ h3 s22 λc hc o e=>k3 c o (λy=>ap.o2 (y ▸ hc)) e;show wpAny _ _ (forIn [(Value.ref i2,1)] _ _) _ _ _;rw[List.forIn_cons];refine AAA (AAA (wpAny_onRaise (AAA (D2.item k { s with heap:=h3,toks:=t2 } _ _ hk s23 λy h4 t4 py s24 b4=>AAB ?_))));have k4:∀c o,c≠i2->h3.get? c=some o->h4.get? c=some o:=λc o hc e=>(b4.2 c hc).trans e;have hO4:=hO3.keep (h':=h4) λo e=>k4 TO o (ne2 ap.o2) e;have hI4:=hI3.keep (h':=h4) λo e=>k4 TI o ap.n2 e;have z4:=k4 z _ (ne2 ap.z2) z3;have s14:=D1.frame _ _ h4 s13 λc hc o e=>k4 c o (λy=>ap.x21 (y ▸ hc)) e;obtain⟨nO4,eO4⟩:=id hO4;refine AAA (m:=seqItems? (.ref TO)) (AAy eO4 rfl ?_);refine AAA (Oa (s:={ s with heap:=h4,toks:=t4 }) (c:=x) (d:=y) hO4 rfl λh5 hO5 b5=>AAA (wpAny_letGo (AAB ?_)));have k5:∀c o,c≠TO->h4.get? c=some o->h5.get? c=some o:=λc o hc e=>(b5.2 c hc).trans e;have hI5:=hI4.keep (h':=h5) λo e=>k5 TI o ap.io e;have z5:=k5 z _ ap.zTO z4;have s15:=D1.frame _ _ h5 s14 λc hc o e=>k5 c o (λy=>ap.o1 (y ▸ hc)) e;have s25:=D2.frame _ _ h5 s24 λc hc o e=>k5 c o (λy=>ap.o2 (y ▸ hc)) e;show wpAny _ _ (forIn [] _ _) _ _ _;rw[List.forIn_nil];refine AAB ?_;obtain⟨nO5,eO5⟩:=id hO5;refine AAA (m:=seqItems? (.ref TO)) (AAy eO5 rfl ?_);refine AAA (wpAny_newTuple ?_ (by simp[sizeLine]));have kp:∀c o,h5.get? c=some o->(h5.push { cls:=.type "tuple",data:=.seq #[x,y] }).get? c=some o:=λc o e=>AAC _ e;unfold Builtin.SmallTypes.ownedTupleHandOut;refine AAA (AAA (AAp (s:={ s with heap:=h5.push { cls:=.type "tuple",data:=.seq #[x,y] },toks:=t4 }) (kp z _ z5) (by simp) λh6 z6 b6=>AAp (s:={ s with heap:=h6,toks:=t4 }) z6 (by simp) λh7 z7 b7=>AAB ⟨_,rfl,?_⟩));have sz:h5.objs.size=s.heap.objs.size:=by rw[b5.1,b4.1,b3.1,b2.1,b1.1]
 have zlt:z<h5.objs.size:=Heap.lt_size z5;have k7:∀c o,c≠z->h5.get? c=some o->h7.get? c=some o:=λc o hc e=>(b7.2 c hc).trans ((b6.2 c hc).trans (kp c o e));refine q x y h5.objs.size h7 t4 px py (by rw[sz];exact AAF _) ?_ z7 (hI5.keep λo e=>k7 TI o ap.zTI.symm e) (hO5.keep λo e=>k7 TO o ap.zTO.symm e) (D1.frame _ _ h7 s15 λc hc o e=>k7 c o (λy=>ap.z1 (y ▸ hc)) e) (D2.frame _ _ h7 s25 λc hc o e=>k7 c o (λy=>ap.z2 (y ▸ hc)) e) ?_
 ·refine⟨{ cls:=.type "tuple",data:=.seq #[x,y] },?_,rfl,0,rfl⟩;have ne:h5.objs.size≠z:=Nat.ne_of_gt zlt;exact(b7.2 _ ne).trans ((b6.2 _ ne).trans (AAD _ rfl))
 ·intro c o c1 c2 c3 c4 e;exact k7 c o c1 (k5 c o c2 (k4 c o c4 (k3 c o c2 (k2 c o c3 (k1 c o c1 e)))))
theorem LU{z TI TO i1 i2:Addr}{n:Nat}{a b:Value}(ap:DS z TI TO i1 i2 f1 f2)(D1:Draws prog w A.in1 i1 f1 n P1 S1)
  (hz:s.heap.get? z=some (B6 TI TO .none)) (hI:TwoAt s.heap TI (.ref i1) (.ref i2)) (hO:TwoAt s.heap TO a b) (s1:S1 n s.heap)
  (q:∀h' e,(∀c o,c≠z->c≠i1->s.heap.get? c=some o->h'.get? c=some o)->(∃o,h'.get? e=some o/\o.cls=.type "StopIteration")->E (.ref e) { s with heap:=h' }) :
  wpAny (model prog w) A.in1 (Builtin.«zip.__next__» ⟨[.ref z],[]⟩) Q E s:=by
 obtain⟨nI,eI⟩:=id hI;refine AAA (m:=field (.ref z) 2) (AAx hz rfl (x:=.bool false) rfl (AAA (m:=field (.ref z) 3) (AAx hz rfl (x:=.ref TI) rfl (AAA (m:=seqItems? (.ref TI)) (AAy eI rfl ?_)))));refine BF (by simp) (AAA (m:=Builtin.SmallTypes.ownedTupleIsFree (.ref z)) ?_);unfold Builtin.SmallTypes.ownedTupleIsFree;refine AAA (m:=field (.ref z) 0) (AAx hz rfl (x:=.none) rfl (AAB ?_));rw[if_pos rfl];refine AAA (wpAny_rule (AAA (m:=field (.ref z) 4) (AAx hz rfl (x:=.ref TO) rfl (AAA (AAp hz (by simp) λh1 z1 b1=>?_)))));have s11:=D1.frame _ _ h1 s1 λc hc o e=>(b1.2 c (λy=>ap.z1 (y ▸ hc))).trans e;refine AAA (m:=forIn [(Value.ref i1,0),(Value.ref i2,1)] _ _) ?_;rw[List.forIn_cons];refine AAA (AAA (wpAny_onRaise (AAA (D1.done { s with heap:=h1 } _ _ s11 λh2 e eb so=>?_))));have zne:z≠i1:=λy=>ap.z1 (y ▸ ap.m1);have z2:h2.get? z=some (B6 TI TO .ellipsis):=eb z _ zne z1;obtain⟨oe,he,hce⟩:=so;refine AAp (s:={ s with heap:=h2 }) z2 (by simp) λh3 z3 b3=>q h3 e (λc o c1 c2 x=>(b3.2 c c1).trans (eb c o c2 ((b1.2 c c1).trans x))) ⟨oe,?_,hce⟩;have ez:e≠z:=λy=>by
  rw[y,z2] at he;cases he;exact absurd (Value.type.inj (show Value.type "zip" = Value.type "StopIteration" from hce)) (by decide)
 exact(b3.2 e ez).trans he
theorem Fo{z TI TO:Addr}(hz:s.heap.get? z=some (B6 TI TO f0))(h:Q (.ref z) s):wpAny (model prog w) A (pyIter (.ref z)) Q E s:=wpAny_pyIter_zip hz h
theorem P5(hh:A.handled=none){z TI TO i1 i2:Addr}{n:Nat}{S1 S2:Nat->Heap->Prop}{f1 f2:List Addr}(ap:DS z TI TO i1 i2 f1 f2)
  (D1:Draws prog w A.in1 i1 f1 n P1 S1) (D2:Draws prog w A.in1 i2 f2 n P2 S2) :
  WalksT prog w A z (z::TI::TO::(f1++f2)) [z,TI,TO,i1,i2] n (λk vals=>∃x y,P1 k x/\P2 k y/\vals=#[x,y])
   (λk h=>h.get? z=some (B6 TI TO .none)/\TwoAt h TI (.ref i1) (.ref i2)/\(∃a b,TwoAt h TO a b)/\S1 k h/\S2 k h)
   (λk T h=>h.get? z=some (B6 TI TO (rawInt T))/\TwoAt h TI (.ref i1) (.ref i2)/\(∃a b,TwoAt h TO a b)/\S1 (k+1) h/\S2 (k+1) h/\T≠z/\T≠TI/\T≠TO/\T≠i1/\T≠i2) where
 sub:=λc hc=>by
  have hc':c=z∨c=TI∨c=TO∨c=i1∨c=i2:=by simpa using hc
  rcases hc' with e|e|e|e|e<;>subst e
  ·simp
  ·simp
  ·simp
  ·simp[ap.m1]
  ·simp[ap.m2]
 frame:=λk h h' st kp=>by
  obtain⟨a1,a2,⟨a,b,a3⟩,a4,a5⟩:=st;exact⟨kp z (by simp) _ a1,a2.keep λo e=>kp TI (by simp) o e,⟨a,b,a3.keep λo e=>kp TO (by simp) o e⟩,D1.frame _ _ _ a4 λc hc o e=>kp c (by simp[hc]) o e,D2.frame _ _ _ a5 λc hc o e=>kp c (by simp[hc]) o e⟩
 item:=λk s Q E hk st q=>by
  obtain⟨a1,a2,⟨a,b,a3⟩,a4,a5⟩:=st;have ty:s.TypeIs (.ref z) "zip" := ⟨_,a1,rfl⟩;unfold pyNext;refine AAA (AAz (wpAny_callSpecial?_slot (name:=Str.ofString "__next__") ty F.slot_zip_next (AAd F.slot_zip_next ty F.entry_zip_next (LV ap D1 D2 hk a1 a2 a3 a4 a5 λx y T h' tk px py hT tup b1 b2 b3 b4 b5 kp=>?_) (F.args_zip_next_1 _))));have lt:∀{c:Addr} {o:Obj},s.heap.get? c=some o->T≠c:=λe=>Nat.ne_of_gt (AAN (Heap.lt_size e) hT);obtain⟨o1,e1⟩:=D1.live _ _ a4;obtain⟨o2,e2⟩:=D2.live _ _ a5;obtain⟨n3,e3⟩:=a3;obtain⟨n4,e4⟩:=id a2;refine AAB (q T #[x,y] h' tk ⟨x,y,px,py,rfl⟩ hT tup ⟨b1,b2,⟨x,y,b3⟩,b4,b5,lt a1,lt e4,lt e3,lt e1,lt e2⟩ λc o hc e=>?_);exact kp c o (λz=>hc (by simp[z])) (λz=>hc (by simp[z])) (λz=>hc (by simp[z])) (λz=>hc (by simp[z])) e
 go:=λes k0 pos k T s Q E st q=>by
  obtain⟨a1,a2,a3,a4,a5,t1,t5,t2,t3,t4⟩:=st;refine wpAny_letOwnedTupleGo_zip a1 λh' hz' sb=>?_;have kp:∀c o,c≠z->s.heap.get? c=some o->h'.get? c=some o:=λc o hc e=>(sb.2 c hc).trans e;obtain⟨a,b,a3⟩:=a3;refine q h' ⟨hz',a2.keep λo e=>kp TI o ap.zTI.symm e,⟨a,b,a3.keep λo e=>kp TO o ap.zTO.symm e⟩,D1.frame _ _ _ a4 λc hc o e=>kp c o (λy=>ap.z1 (y ▸ hc)) e,D2.frame _ _ _ a5 λc hc o e=>kp c o (λy=>ap.z2 (y ▸ hc)) e⟩ λc o hc e=>kp c o (λy=>hc (by simp[y])) e
 apart:=λk T h st hT=>by
  obtain⟨_,_,_,_,_,t1,t5,t2,t3,t4⟩:=st;have hT':T=z∨T=TI∨T=TO∨T=i1∨T=i2:=by simpa using hT
  rcases hT' with e|e|e|e|e
  ·exact t1 e
  ·exact t5 e
  ·exact t2 e
  ·exact t3 e
  ·exact t4 e
 done:=λs Q E st q=>by
  obtain⟨a1,a2,⟨a,b,a3⟩,a4,a5⟩:=st;have ty:s.TypeIs (.ref z) "zip" := ⟨_,a1,rfl⟩;unfold pyNext;refine AAA (AAz (wpAny_callSpecial?_slot (name:=Str.ofString "__next__") ty F.slot_zip_next (AAd F.slot_zip_next ty F.entry_zip_next (LU ap D1 a1 a2 a3 a4 λh' e kp so=>?_) (F.args_zip_next_1 _))));obtain⟨o,ho,hc⟩:=so;refine AAA (AA0 (T := "StopIteration") (b:=true) ⟨o,ho,hc⟩ isSubtype_stop (AAB (q h' s.toks λc o hc e=>?_)));exact kp c o (λy=>hc (by simp[y])) (λy=>hc (by simp[y])) e
 self:=λk s Q E st h=>Fo st.1 h
end
end L2
namespace L2
open PySem PySem.Spec PyProof.Rows
noncomputable abbrev Dj(a b:Value):Obj:={ cls:=.type "tuple",data:=.seq #[a,b] }
noncomputable abbrev zh2(h:Heap)(o1 o2:Obj):Heap:=(h.push o1).push o2
noncomputable abbrev zh4(h:Heap)(o1 o2:Obj):Heap:=((zh2 h o1 o2).push (Dj (.ref h.objs.size) (.ref (h.push o1).objs.size))).push (Dj .none .none)
noncomputable abbrev zh5(h:Heap)(o1 o2:Obj):Heap:=(zh4 h o1 o2).push (B6 (zh2 h o1 o2).objs.size ((zh2 h o1 o2).push (Dj (.ref h.objs.size) (.ref (h.push o1).objs.size))).objs.size .none)
theorem OS(v1 v2:Value)(o1 o2:Obj)(g1 g2:Heap->Prop)(g2p:∀h,g2 h->g2 (h.push o1))
  (w1:∀(prog:Program) (w:World) (A:Around) (E:Value->Shared->Prop) (s:Shared) (Q:Value->Shared->Prop),g1 s.heap->Q (.ref s.heap.objs.size) { s with heap:=s.heap.push o1 }->wpAny (model prog w) A (pyIter v1) Q E s)
  (w2:∀(prog:Program) (w:World) (A:Around) (E:Value->Shared->Prop) (s:Shared) (Q:Value->Shared->Prop),g2 s.heap->Q (.ref s.heap.objs.size) { s with heap:=s.heap.push o2 }->wpAny (model prog w) A (pyIter v2) Q E s) :
  Meets (Builtin.«zip.__new__» ⟨[.type "zip",v1,v2],[]⟩) (λ_ R s=>g1 s.heap/\g2 s.heap/\R (.ok (.ret (.ref (zh4 s.heap o1 o2).objs.size))) { s with heap:=zh5 s.heap o1 o2 }):=by
 refine .of_wp λprog w A R s ⟨x1,x2,q⟩=>?_;have own:=sub_zip;have walk1:∀(A:Around) (E:Value->Shared->Prop) (Q:Value->Shared->Prop),Q (.ref s.heap.objs.size) { s with heap:=s.heap.push o1 }->wpAny (model prog w) A (pyIter v1) Q E s:=λA E Q z=>w1 prog w A E s Q x1 z;have walk2:∀(A:Around) (E:Value->Shared->Prop) (Q:Value->Shared->Prop),Q (.ref (s.heap.push o1).objs.size) { s with heap:=zh2 s.heap o1 o2 }->wpAny (model prog w) A (pyIter v2) Q E { s with heap:=s.heap.push o1 }:=λA E Q z=>w2 prog w A E { s with heap:=s.heap.push o1 } Q (g2p _ x2) z;obtain⟨hp,gs,dr,tk,os⟩:=s
 wp_walk using walk1,walk2
 exact⟨_,rfl,q⟩
noncomputable def Kb(xs ys:List V)(i:Nat):List V:=[xs.getD i .non,ys.getD i .non]
theorem Pw(r:Vals xs its)(r2:Vals ys jts)(h:∃x y,its.toArray[i]?=some x/\jts.toArray[i]?=some y/\vals=#[x,y]):Vals (Kb xs ys i) vals.toList:=by
 obtain⟨x,y,hx,hy,rfl⟩:=h;have one:∀{zs:List V} {us:List Value} {u:Value},Vals zs us->us.toArray[i]?=some u->RelV (zs.getD i .non) u:=λ{zs us u} rz hu=>by
  have hu':us[i]?=some u:=by simpa using hu
  have hl:=rz.length;have lt:i<zs.length:=by have:=(AAU.mp hu').1;omega
  obtain⟨u',e1,e2⟩:=rz.get (show zs[i]?=some zs[i] by simp[lt]);rw[hu'] at e1;cases e1;simpa[List.getD,lt] using e2
 exact .cons (one r hx) (.cons (one r2 hy) .nil)
theorem P7{P:Program}{w:World}{K:PySem.W.Frag}(a b z TI TO i1 i2:Addr)(xs ys:List V)(hl:ys.length=xs.length)(ap:DS z TI TO i1 i2 [i1,a] [i2,b])(h1:a≠i1)(h2:b≠i2):
  LM P w K (.Tuple es k0 pos) (ItP K xs.length (Kb xs ys) λK H=>SqT K H a xs/\SqT K H b ys) [z,TI,TO,i1,i2] z (λi h=>h.get? z=some (B6 TI TO .none)/\TwoAt h TI (.ref i1) (.ref i2)/\(∃c d,TwoAt h TO c d)/\h.IsTupleIter i1 a i/\h.IsTupleIter i2 b i):=by
 refine Hm (ι:=List Value×List Value) (good:=λp=>Vals xs p.1/\Vals ys p.2) (Pt:=λp i vals=>∃x y,p.1.toArray[i]?=some x/\p.2.toArray[i]?=some y/\vals=#[x,y])
  (Sw:=λp i h=>h.get? z=some (B6 TI TO .none)/\TwoAt h TI (.ref i1) (.ref i2)/\(∃c d,TwoAt h TO c d)/\(h.IsTupleIter i1 a i/\h.IsTuple a p.1.toArray)/\(h.IsTupleIter i2 b i/\h.IsTuple b p.2.toArray))
  (Mid:=λp i T h=>h.get? z=some (B6 TI TO (rawInt T))/\TwoAt h TI (.ref i1) (.ref i2)/\(∃c d,TwoAt h TO c d)/\(h.IsTupleIter i1 a (i+1)/\h.IsTuple a p.1.toArray)/\(h.IsTupleIter i2 b (i+1)/\h.IsTuple b p.2.toArray)/\T≠z/\T≠TI/\T≠TO/\T≠i1/\T≠i2)
  (fp:=z::TI::TO::([i1,a]++[i2,b]))
  (λA hA p r=>?walk) AAQ (λp i vals r h=>Pw r.1 r.2 h) (λi=>(by show 2<=sizeLine;decide)) (λi h st=>?obj) (λi h h' st k=>?keep) (λX pins σ H s i hP hw hK I hc st=>?into) (λp i h st=>⟨st.1,st.2.1,st.2.2.1,st.2.2.2.1.1,st.2.2.2.2.1⟩) (λA i s Q E st h=>Fo st.1 h)
 case walk=>
  have l1:p.1.toArray.size=xs.length:=by rw[List.size_toArray];exact r.1.length.symm
  have l2:p.2.toArray.size=xs.length:=by rw[List.size_toArray,←hl];exact r.2.length.symm
  have D1:=E9 (prog:=P) (w:=w) (A:=A.in1) hA i1 a h1 p.1.toArray;have D2:=E9 (prog:=P) (w:=w) (A:=A.in1) hA i2 b h2 p.2.toArray;rw[l1] at D1;rw[l2] at D2;exact P5 hA ap D1 D2
 case obj=>
  intro c hc;obtain⟨a1,⟨n1,a2⟩,⟨c0,d0,n2,a3⟩,⟨o4,a4,_,d4⟩,⟨o5,a5,_,d5⟩⟩:=st;have hc':c=z∨c=TI∨c=TO∨c=i1∨c=i2:=by simpa using hc
  rcases hc' with e|e|e|e|e<;>subst e
  ·exact⟨_,a1,λv q=>by cases q⟩
  ·exact⟨_,a2,λv q=>by cases q⟩
  ·exact⟨_,a3,λv q=>by cases q⟩
  ·exact⟨_,a4,λv q=>by rw[d4] at q;cases q⟩
  ·exact⟨_,a5,λv q=>by rw[d5] at q;cases q⟩
 case keep=>
  obtain⟨a1,a2,⟨c0,d0,a3⟩,⟨o4,a4,r4⟩,⟨o5,a5,r5⟩⟩:=st;exact⟨k z (by simp) _ a1,a2.keep λo e=>k TI (by simp) o e,⟨c0,d0,a3.keep λo e=>k TO (by simp) o e⟩,⟨o4,k i1 (by simp) o4 a4,r4⟩,⟨o5,k i2 (by simp) o5 a5,r5⟩⟩
 case into=>
  subst hK;obtain⟨c1,c2⟩:=hc;obtain⟨a1,a2,a3,a4,a5⟩:=st;obtain⟨its,r,p,_⟩:=I.tuple c1;obtain⟨jts,r2,p2,_⟩:=I.tuple c2;exact⟨(its,jts),⟨r,r2⟩,a1,a2,a3,⟨a4,p⟩,⟨a5,p2⟩⟩
section
theorem M4:bootBuiltins "zip" = some (.type "zip"):=by decide +kernel
noncomputable def aD(K:PySem.W.Frag)(ta:TA):TI:=λσ H R=>ta σ H λvs H1=>∃a b xs ys,vs=[.ref a,.ref b]/\SqT K H1 a xs/\SqT K H1 b ys/\ys.length=xs.length/\R (ItP K xs.length (Kb xs ys) λK H=>SqT K H a xs/\SqT K H b ys) H1
end
section
variable{X:Cx}{es:List Expr}{k0:Nat}{tpos:Pos}
theorem nin(h1:c≠n)(h2:c≠l):c∉([n,l]:List Nat):=λh=>by
 have h':c=n∨c=l:=by simpa using h
 exact h'.elim h1 h2
theorem zap(n l m:Nat)(hl:l<n)(hm:m<n):DS (n+4) (n+2) (n+3) n (n+1) [n,l] [n+1,m] where
 zTI:=(by omega:¬(n+4:Nat)=n+2)
 zTO:=(by omega:¬(n+4:Nat)=n+3)
 io:=(by omega:¬(n+2:Nat)=n+3)
 z1:=nin (by omega) (by omega)
 z2:=nin (by omega) (by omega)
 o1:=nin (by omega) (by omega)
 o2:=nin (by omega) (by omega)
 n1:=(by omega:¬(n+2:Nat)=n)
 n2:=(by omega:¬(n+2:Nat)=n+1)
 m1:=AAQ
 m2:=AAQ
 x12:=nin (by omega) (by omega)
 x21:=nin (by omega) (by omega)
theorem WG(I:Inv X pins σ H s)(c:Addr)(hc:s.heap.objs.size<=c):EQ X pins H c:=I.fpOk hc (I.hok.fresh hc)
theorem Vb(hg:Gl X "zip")(hm:X.mg "zip" = none)(ha:PA X [a,b] ta)(hs:starEach [a,b] X.env=(false,eval a X.env)::starEach [b] X.env)(hpl:(backTo pos (starEach [b] X.env)).any (·.1)=false):
  PI X (.Tuple es k0 tpos) (.Call (.Name "zip" p) [a,b] [] pos) (aD X.kw ta):=by
 intro pins s σ H R I h;refine Call_ (Em I hg hm M4 (PyProof.Rows.callWith_type1 (thn (ha pos pins s σ H _ I h) λus s1 ⟨vs,H1,I1,r1,q1⟩=>?_) hs hpl));obtain⟨l,m,xs,ys,ev,hx,hy,hl,q⟩:=q1;subst ev;obtain⟨u1,u2,eu,ru1,ru2⟩:=Vals.two r1;subst eu;cases ru1;cases ru2;obtain⟨its,rx,px,_⟩:=I1.tuple hx;obtain⟨jts,ry,py,_⟩:=I1.tuple hy;have ltl:l<s1.heap.objs.size:=by obtain⟨o,e,_⟩:=px;exact Heap.lt_size e
 have ltm:m<s1.heap.objs.size:=by obtain⟨o,e,_⟩:=py;exact Heap.lt_size e
 have new:=OS (.ref l) (.ref m) { cls:=.type "tuple_iterator",data:=.fields #[.ref l,.int 0 0] } { cls:=.type "tuple_iterator",data:=.fields #[.ref m,.int 0 0] } (λh=>h.IsTuple l its.toArray) (λh=>h.IsTuple m jts.toArray) (λh x=>x.push _) (λ_ _ _ _ _ _ g z=>wpAny_pyIter_tuple g z) (λ_ _ _ _ _ _ g z=>wpAny_pyIter_tuple g z);refine callType_new F.called_zip (by decide) (F.typeCall_zip_2 _ _) (F.newCall_zip_2 _ _) (λobj=>F.args_object_init_3 obj _ _) F.entry_zip_new new ⟨px,py,?_⟩;generalize ho1:({ cls:=.type "tuple_iterator",data:=.fields #[.ref l,.int 0 0] }:Obj)=o1;generalize ho2:({ cls:=.type "tuple_iterator",data:=.fields #[.ref m,.int 0 0] }:Obj)=o2;have n1:(s1.heap.push o1).objs.size=s1.heap.objs.size+1:=Heap.size_push ..;have n2:(zh2 s1.heap o1 o2).objs.size=s1.heap.objs.size+2:=by rw[Heap.size_push,n1]
 have n3:((zh2 s1.heap o1 o2).push (Dj (.ref s1.heap.objs.size) (.ref (s1.heap.push o1).objs.size))).objs.size=s1.heap.objs.size+3:=by rw[Heap.size_push,n2]
 have n4:(zh4 s1.heap o1 o2).objs.size=s1.heap.objs.size+4:=by rw[Heap.size_push,n3]
 have kp:∀c o,s1.heap.get? c=some o->(zh5 s1.heap o1 o2).get? c=some o:=λc o e=>AAC _ (AAC _ (AAC _ (AAC _ (AAC _ e))));have f1:o1.isFreed=false:=by rw[←ho1];rfl
 have f2:o2.isFreed=false:=by rw[←ho2];rfl
 have a1:(zh5 s1.heap o1 o2).get? s1.heap.objs.size=some o1:=AAC _ (AAC _ (AAC _ (AAC _ (AAD _ f1))));have a2:(zh5 s1.heap o1 o2).get? (s1.heap.objs.size+1)=some o2:=by rw[←n1];exact AAC _ (AAC _ (AAC _ (AAD _ f2)))
 have a3:(zh5 s1.heap o1 o2).get? (s1.heap.objs.size+2)=some (Dj (.ref s1.heap.objs.size) (.ref (s1.heap.objs.size+1))):=by
  rw[←n1,←n2];exact AAC _ (AAC _ (AAD _ rfl))
 have a4:(zh5 s1.heap o1 o2).get? (s1.heap.objs.size+3)=some (Dj .none .none):=by
  rw[←n3];exact AAC _ (AAD _ rfl)
 have a5:(zh5 s1.heap o1 o2).get? (s1.heap.objs.size+4)=some (B6 (s1.heap.objs.size+2) (s1.heap.objs.size+3) .none):=by
  rw[←n4,←n2,←n3];exact AAD _ rfl
 show _/\_;rw[n4];refine⟨⟨_,a5,rfl⟩,Fo a5 ?_⟩;refine⟨s1.heap.objs.size+4,[s1.heap.objs.size+4,s1.heap.objs.size+2,s1.heap.objs.size+3,s1.heap.objs.size,s1.heap.objs.size+1],_,_,H1,rfl,I1.kept (t':=s1.toks) kp,
  P7 l m (s1.heap.objs.size+4) (s1.heap.objs.size+2) (s1.heap.objs.size+3) s1.heap.objs.size (s1.heap.objs.size+1) xs ys hl (zap _ l m ltl ltm) (AAe ltl) (AAe (AAh ltm)),⟨a5,⟨_,a3⟩,⟨_,_,_,a4⟩,⟨o1,a1,by rw[←ho1],by rw[←ho1];rfl⟩,⟨o2,a2,by rw[←ho2],by rw[←ho2];rfl⟩⟩,λc hc=>WG I1 c ?_,q⟩
 have hc':c=s1.heap.objs.size+4∨c=s1.heap.objs.size+2∨c=s1.heap.objs.size+3∨c=s1.heap.objs.size∨c=s1.heap.objs.size+1:=by simpa using hc
 rcases hc' with e|e|e|e|e<;>subst e<;>first|exact AAF _|exact Nat.le_add_right _ _
end
end L2
namespace Mi
open PySem L2
section
variable{X:Cx}{a b:Expr}{es:List Expr}{pos:Pos}
noncomputable def JK:List D->List D->List D
 |x::xs,y::ys=>.tup [x,y]::JK xs ys
 |_,_=>[]
noncomputable def OT:List D->M (List D)
 |[.tup xs,.tup ys]=>λμ=>if ys.length=xs.length then some (JK xs ys,μ) else none
 |_=>BK
noncomputable def Z9(m:Sl->M (List D)):Sl->M (List D):=λτ=>bnd (m τ) OT
theorem LW:∀{xs ys:List D},ys.length=xs.length->(JK xs ys).length=xs.length
 |[],[],_=>rfl
 |x::xs,y::ys,h=>by unfold JK;simp at h ⊢;exact LW h
 |[],_::_,h=>by simp at h
 |_::_,[],h=>by simp at h
theorem LX:∀{xs ys:List D} {j:Nat} {d:D},(JK xs ys)[j]?=some d->∃x y,xs[j]?=some x/\ys[j]?=some y/\d=.tup [x,y]
 |[],_,j,d,h=>by simp[JK] at h
 |_::_,[],j,d,h=>by simp[JK] at h
 |x::xs,y::ys,0,d,h=>by simp[JK] at h;exact⟨x,y,rfl,rfl,h.symm⟩
 |x::xs,y::ys,j+1,d,h=>by
  obtain⟨x',y',h1,h2,h3⟩:=LX (xs:=xs) (ys:=ys) (j:=j) (d:=d) (by simpa[JK] using h);exact⟨x',y',by simpa using h1,by simpa using h2,h3⟩
theorem V2{K:KW}{ι:Nat->Addr}{μ:Mh}{ds es:List D}{Cond:PySem.W.Frag->Hp->Prop}(st:∀ι' (μ':Mh) H',Ext ι μ.length H ι' μ'.length H'->RelH K ι' μ' H'->Cond K H')(i:IsL K ι μ.length H ds vs)(j:IsL K ι μ.length H es ws)(hl:es.length=ds.length):
  ItM K (ItP K vs.length (Kb vs ws) Cond) (JK ds es) ι μ H:=by
 intro ι' μ' H' E R;have h:=st ι' μ' H' E R;rw[LW hl,←i.length];refine⟨λj hj=>⟨hj,h⟩,⟨rfl,h⟩,λk x H2 d hd y=>?_⟩;obtain⟨T,hT,rfl,rfl⟩:=y;obtain⟨E2,R2⟩:=R.laid (.tup (Kb vs ws k)) hT;refine⟨E2,R2,?_⟩;obtain⟨x,y,h1,h2,rfl⟩:=LX hd;obtain⟨v,ev,iv⟩:=(i.ext E).get h1;obtain⟨u,eu,iu⟩:=(j.ext E).get h2;have es':Kb vs ws k=[v,u]:=by unfold Kb;simp[List.getD,ev,eu]
 have key:IsL K ι' (List.length μ') (upd H' T (.tup (Kb vs ws k))) [x,y] [v,u]:=.cons (iv.ext E2) (.one (iu.ext E2));unfold Is;exact⟨T,_,rfl,SqT.of BJ,(congrArg (IsL K ι' (List.length μ') (upd H' T (.tup (Kb vs ws k))) [x,y]) es').mpr key⟩
theorem VF{p tpos:Pos}{m:Sl->M (List D)}(hm:X.mg "zip" = none)(ha:RA X [a,b] m)(hg:Gl X "zip" := by rfl)(hs:starEach [a,b] X.env=(false,eval a X.env)::starEach [b] X.env:=by exact As rfl)(hpl:(backTo pos (starEach [b] X.env)).any (·.1)=false:=by exact BU rfl):
  RI X (.Tuple es k0 tpos) (.Call (.Name "zip" p) [a,b] [] pos) (Z9 m):=
 RI.wk (Vb hg hm ha.pe hs hpl) λσ H R q=>by
  obtain⟨ι,μ,τ,ds,μ',R0,S,e,q⟩:=q;obtain⟨xs,μ1,e1,e2⟩:=AL e;refine⟨ι,μ,τ,xs,μ1,R0,S,e1,λι1 H1 E1 R1 vs i1=>?_⟩;unfold OT at e2;split at e2
  ·rename_i xs ys;split at e2
   ·rename_i hl;cases e2;obtain⟨v,u,rfl,i2,i3⟩:=To i1;unfold Is at i2 i3;obtain⟨p,ws,rfl,h1,h2⟩:=i2;obtain⟨p',ws',rfl,h1',h2'⟩:=i3;exact⟨p,p',ws,ws',rfl,h1,h1',by rw[h2.length,h2'.length];exact hl,q ι1 H1 E1 R1 _ (V2 (λι' μ' H' E _=>⟨Fr E h1,Fr E h1'⟩) h2 h2' hl)⟩
   ·cases e2
  ·cases e2
end
end Mi
namespace L2
open PySem PySem.Spec PyProof.Rows Sem
noncomputable def C5(xs:List Str):List Str:=xs.foldl (λys x=>if x∈ys then ys else ys++[x]) []
theorem Qc(xs:List Str)(x:Str):C5 (xs++[x])=if x∈C5 xs then C5 xs else C5 xs++[x]:=by
 unfold C5;rw[List.foldl_append];rfl
theorem Jv:∀(xs ys:List Str),(xs.foldl (λys x=>if x∈ys then ys else ys++[x]) ys).length<=ys.length+xs.length
 |[],ys=>AAF _
 |x::xs,ys=>by
  rw[List.foldl_cons];have:=Jv xs (if x∈ys then ys else ys++[x]);split at this<;>simp at this ⊢<;>(try split)<;>simp_all<;>omega
theorem Vv(xs:List Str):(C5 xs).length<=xs.length:=by
 have:=Jv xs [];simpa[C5] using this
section
variable{prog:Program}{w:World}{A:Around}{E:Value->Shared->Prop}{s:Shared}
set_option maxHeartbeats 2000000 in
theorem PL(ft:TypeCalled T nid iid)(ok:checkTypeCall T ⟨args,[]⟩=pure ())
  (new:codeAny (model prog w) A.in1 (.call (.builtin nid) ⟨.type T::args,[]⟩) (wants Q₁ E) s)
  (init:∀x s₁,Q₁ x s₁->s₁.TypeIs x T/\codeAny (model prog w) A.in1 (.call (.builtin iid) ⟨x::args,[]⟩) (wants (λr s₂=>r=.none/\Q x s₂) E) s₁) :
  wpAny (model prog w) A (call (.type T) args) Q E s:=by
 have a1:=ft.notType;have a2:=ft.canCreate;have a3:=ft.made;have a4:=ft.sub;obtain⟨c,tl,a5⟩:=ft.mro;have step:codeAny (model prog w) A (.builtin "type.__call__" ⟨.type T::args,[]⟩) (wants Q E) s:=by
  refine codeAny_builtin F.entry_type_call ?_;rw[Around.under_plain (weight_type_call_type T args []) rfl];unfold Builtin.«type.__call__»
  iterate 3 (any_goals (first|assumption|wp_step))
  first|refine AAw ok ?_|refine AAA (AAw ok ?_)
  repeat (any_goals (first|assumption|wp_step))
  refine codeAny_mono new λr s₁ hr=>?_
  match r,hr with
  | .error e,hr=>exact hr
  | .ok (.ret x),hr=>
   obtain⟨ty,run⟩:=init x s₁ hr;have b1:=ft.init.lookup;have b2:=ft.init.bind x
   repeat (any_goals (first|assumption|wp_step))
   refine codeAny_mono run λr₂ s₂ hr₂=>?_
   match r₂,hr₂ with
   | .error e,hr₂=>exact hr₂
   | .ok (.ret y),hr₂=>
    obtain⟨ey,hq⟩:=hr₂;subst ey
    repeat (any_goals (first|assumption|wp_step))
 exact wpAny_call (codeAny_of_tree (AAB ⟨Code.quiet_builtin _ (by decide +kernel),step⟩))
noncomputable abbrev Ay(led:Bool):Obj:={ cls:=.type "set",data:=.set #[] 0 (.fresh 0 0 led) }
end
end L2
namespace Mi
open PySem L2
noncomputable def Jg:List D->Option (List Str)
 |[]=>some []
 | .str x::ds=>(Jg ds).map (x::·)
 |_=>none
theorem Lh:∀{ds:List D} {vs:List V} {ss:List Str},IsL K ι k H ds vs->Jg ds=some ss->vs=ss.map V.str
 |[],_,_,h,e=>by cases e;unfold IsL at h;exact h
 |d::ds,_,_,h,e=>by
  cases d with
  |str x=>
   unfold IsL at h;obtain⟨v,vs',rfl,h1,h2⟩:=h;have e':(Jg ds).map (x::·)=some _:=e;cases q:Jg ds with
   |none=>rw[q] at e';cases e'
   |some ss=>
    rw[q] at e';cases e';unfold Is at h1;rw[h1,Lh h2 q];rfl
  |_=>cases e
inductive How where
 |all|drop|frz
theorem Fn.mono(F:Fn P w K mg base x ps j φ)(h:j<=k):Fn P w K mg base x ps k φ:=by
 obtain⟨len,f,fd,F,hm,hk,hb⟩:=F;exact⟨len,f,fd,F.mono h,hm,hk,hb⟩
theorem Md(F:Fun K x qual st f fd)(hm:mg x=some (.ref f))(hb:Binds K fd ps []):Fn P w K mg base x ps k (λ_=>BK):=by
 refine⟨(λds μ r h=>absurd (show (none:Option (D×Mh))=some r from h) (by simp)),⟨f,fd,⟨λvs H Q E h=>?_,λA outer s H args us vs Q E _ _ _ _ h=>?_⟩,hm,F.kp,hb⟩⟩
 ·obtain⟨_,ι,μ,as,d,μ',_,_,e,_⟩:=h;cases e
 ·obtain⟨_,ι,μ,as,d,μ',_,_,e,_⟩:=h;cases e
section
variable{P:Program}{w:World}{K:PySem.W.Frag}{mg:Str->Option Value}{base h:Heap}{x:Str}
noncomputable def Ga:List Value->Option (List Str)
 |[]=>some []
 | .str s _::r=>(Ga r).map (s::·)
 |_::_=>none
theorem G9:∀{us:List Value} {xs:List Str},Ga us=some xs->Vals (xs.map V.str) us
 |[],xs,e=>by cases e;exact .nil
 |u::r,xs,e=>by
  cases u with
  |str s t=>
   have e:(Ga r).map (s::·)=some xs:=e;cases q:Ga r with
   |none=>rw[q] at e;cases e
   |some ys=>rw[q] at e;cases e;exact .cons ⟨t,rfl⟩ (G9 q)
  |_=>cases e
def TupLit(K:PySem.W.Frag)(p:Addr)(xs:List Str):Prop:=∃od its n sl,K.lookup p=some ⟨.type "tuple",od,.seq its n,sl⟩/\Ga its.toList=some xs
theorem ZN(l:K.lookup p=some ⟨.type "tuple",od,.seq its n,sl⟩)(e:Ga its.toList=some xs):TupLit K p xs:=⟨od,its,n,sl,l,e⟩
theorem MU:∀xs:List Str,IsL ⟨K,w⟩ ι k H (xs.map D.str) (xs.map V.str)
 |[]=>.nil
 |_::r=>.cons (by unfold Is;rfl) (MU r)
theorem TupLit.is(h:TupLit K p xs)(hl:xs.length<=1000):Is ⟨K,w⟩ ι k H (.tup (xs.map D.str)) (.ref p):=by
 obtain⟨od,its,n,sl,l,e⟩:=h;have v:=G9 e;unfold Is;refine⟨p,_,rfl,.inr ⟨_,its,n,l,rfl,rfl,?_,v⟩,MU xs⟩;have:=v.length;rw[AAG] at this;have z:its.size=xs.length:=by rw[this];simp
 rw[z];exact Nat.le_of_lt (Gc hl)
theorem GD(X:K.In h)(G:h.Ns mainGlobals mg)(a:PySem.W.nsIn K mainGlobals x=some (some (.int i t))):Glo K mg x (.int i):=
 ⟨_,.int i,PySem.W.mg_of X G a,⟨t,rfl⟩,λ_ _ _ _=>by unfold Is;rfl⟩
theorem WB(X:K.In h)(G:h.Ns mainGlobals mg)(a:PySem.W.nsIn K mainGlobals x=some (some (.ref p)))(l:TupLit K p xs)(hl:xs.length<=1000):Glo K mg x (.tup (xs.map D.str)):=
 ⟨_,.ref p,PySem.W.mg_of X G a,rfl,λ_ _ _ _=>l.is hl⟩
noncomputable def TabIs(K:PySem.W.Frag):List DictEntry->List (Str×List Str)->Prop
 |[],t=>t=[]
 |e::es,t=>∃x ys t' tok p,t=(x,ys)::t'/\e.key=.str x tok/\e.val=.ref p/\TupLit K p ys/\ys.length<=1000/\TabIs K es t'
theorem TabIs.noref:∀{es:List DictEntry} {t:List (Str×List Str)},TabIs K es t->es.any (·.refKey)=false
 |[],_,_=>rfl
 |e::es,t,h=>by
  obtain⟨x,ys,t',tok,p,rfl,hk,_,_,_,r⟩:=h;rw[List.any_cons,r.noref,Bool.or_false];show DictEntry.refKey e=false;unfold DictEntry.refKey;rw[hk]
noncomputable def Ld(t:List (Str×List Str))(y:Str):Option D:=(t.find? (·.1==y)).map λp=>.tup (p.2.map D.str)
theorem TabIs.find:∀{es:List DictEntry} {t:List (Str×List Str)} (y:Str),TabIs K es t->(es.find? (·.key.isStr y)=none/\Ld t y=none)∨∃e p ys,es.find? (·.key.isStr y)=some e/\e.val=.ref p/\TupLit K p ys/\ys.length<=1000/\Ld t y=some (.tup (ys.map D.str))
 |[],t,y,h=>by cases (show t=[] from h);exact .inl ⟨rfl,rfl⟩
 |e::es,t,y,h=>by
  obtain⟨x,ys,t',tok,p,rfl,hk,hv,l,hl,r⟩:=h;have q:e.key.isStr y=(x==y):=by rw[hk];rfl
  cases b:(x==y) with
  |true=>
   right;refine⟨e,p,ys,?_,hv,l,hl,?_⟩
   ·rw[List.find?_cons];simp only[q,b]
   ·unfold Ld;rw[List.find?_cons];simp only[b];rfl
  |false=>
   have z1:(e::es).find? (·.key.isStr y)=es.find? (·.key.isStr y):=by rw[List.find?_cons];simp only[q,b]
   have z2:Ld ((x,ys)::t') y=Ld t' y:=by unfold Ld;rw[List.find?_cons];simp only[b]
   rw[z1,z2];exact r.find y
theorem Vz(X:K.In h)(G:h.Ns mainGlobals mg)(a:PySem.W.nsIn K mainGlobals x=some (some (.ref ad)))(l:K.lookup ad=some ⟨.type "dict",none,.dict es n,#[]⟩)(kl:PySem.W.KeysLit w.params es.toList)
  (hs:(ad==sysModules)=false) (T:TabIs K es.toList t):Yu w K mg x (Ld t):=by
 refine⟨ad,PySem.W.mg_of X G a,λy=>?_⟩;have nr:=T.noref;rcases T.find y with ⟨f,g⟩|⟨e,p,ys,f,hv,tl,hl,g⟩
 ·refine⟨none,⟨y,es,n,none,rfl,l,kl,?_,trivial,hs⟩,.inl ⟨g,rfl⟩⟩;unfold PySem.W.nsIn;rw[l];simp only[f,nr];rfl
 ·refine⟨some (.ref p),⟨y,es,n,some (.ref p),rfl,l,kl,?_,rfl,hs⟩,.inr ⟨_,.ref p,g,rfl,λ_ _ _=>tl.is hl⟩⟩;unfold PySem.W.nsIn;rw[l];simp only[f,hv]
structure Df(K:PySem.W.Frag)(x:Str)(st:Stmt)(f:Addr)(fd:FuncData):Prop where
 a:PySem.W.nsIn K mainGlobals x=some (some (.ref f))
 F:Fun K x x st f fd
theorem aO{st:Stmt}{f:Addr}{oc:Value}{osl:Array (Option Value)}{kV doc pm cdv ct:Value}(a:PySem.W.nsIn K mainGlobals x=some (some (.ref f)))(l:K.lookup f=some ⟨oc,od,.func (PySem.W.fnOf x x (D3 st) (Bv st) (AT st) .none kV doc pm an cdv ct),osl⟩)
  (c:PySem.W.codeIn K cdv x=true) (k:PySem.W.keepIn K (.ref f)=true):∃f fd,Df K x st f fd:=⟨f,_,a,N4 l c k⟩
noncomputable def On(K:PySem.W.Frag):Sp:=λvs H Q _=>∃(a:Addr) (ns:List Int),vs=[.ref a]/\ScrAt K H a (ns.map V.int)/\ns.length<=63/\∀H',Q (.bl true) H'
theorem Xc(F:FnOk P w K mg base CX0 k f fd ["_law_script"] (spM ⟨K,w⟩ 1 φ))(hφ:∀ns:List Int,ns.length<=63->∃μ',φ [.scr ns] []=some (.bl true,μ')):FnOk P w K mg base CX0 k f fd ["_law_script"] (On K):=
 F.imp λvs H Q E q=>by
  obtain⟨a,ns,rfl,s,hl,q⟩:=q;obtain⟨μ',e⟩:=hφ ns hl;refine⟨rfl,λ_=>a,[],[.scr ns],.bl true,μ',⟨λi j h=>absurd h (Nat.not_lt_zero _),λn o e=>by simp at e⟩,.one (by unfold Is;exact⟨a,rfl,s⟩),e,λι2 H2 E2 R2 v i=>?_⟩;unfold Is at i;rw[i];exact q H2
theorem Lq(o:WU H)(s:SqL K H a xs):ScrAt K H a xs:=by
 rcases s with z|z
 ·rcases z with z|⟨p,z⟩
  ·rcases o a with q|⟨p,ys,q⟩
   ·rw[q] at z;cases z
   ·rw[q] at z;cases z
  ·exact .inl ⟨p,z⟩
 ·exact .inr z
end
theorem Y1{l:PySem.W.OpenLaw}{q:Program}{loose:List Str}{XP:(Str->Option Value)->Heap->Prop}{K:Params->PySem.W.Frag}{k:Nat}(hn:l.most=some 63)(hdf:d.params.defaults=[])(hk:k<=60)
  (hY:∀(w:World) (h:Heap),YP w h->(K w.params).In h)
  (F:∀(w:World) (mg:Str->Option Value) (fa:Addr) (h:Heap),(K w.params).In h->h.Ns mainGlobals mg->mg d.name=some (.ref fa)->
   ∃fd:FuncData,(∀(s:Shared) (u:Value),BindsTo s fd ⟨[u],[]⟩ [("_law_script",u)])/\∀base:Heap,(K w.params).In base->base.Ns mainGlobals mg->FnOk l.prog w (K w.params) mg base CX0 k fa fd ["_law_script"] (On (K w.params))) :
  PySem.W.WalkO q loose XP YP l.row.toRowW d [] (λf vs=>PySem.call f vs):=
 L2.CW (n:=63) (k:=k) (x := "_law_script") (CX:=λ_=>CX0) (sp:=λw=>On (K w.params)) hn (by decide) hdf (Room.mono (j:=k) (k:=60) ⟨rfl,by decide,by decide⟩ hk) hY F (λ_ _ a ns hl o hS=>⟨a,ns,rfl,Lq o hS,hl,λ_=>rfl⟩) λ_ _ _ _ _ z=>z
section
variable{X:Cx}{e:Expr}
noncomputable def Yt(n:Nat):D->M D
 | .lst b=>λμ=>match μ[n]? with
  |some (.lst a)=>Ao (a++b) μ
  |_=>none
 |_=>BK
noncomputable def IH(a b:D):M D:=match a with
 | .ref n=>Yt n b
 |_=>O5 a b
theorem K1:OpR X (binaryOp .Add) (rM X.kw IH):=λpins s σ H x y v u Q I rx ry h=>by
 obtain⟨ι,μ,a,b,d,μ',R,ia,ib,e,q⟩:=h;cases a with
 |ref n=>
  cases b with
  |lst bs=>
   have e:(match μ[n]? with|some (.lst a)=>Ao (a++bs) μ|_=>none)=some (d,μ'):=e;split at e
   ·rename_i as hn;obtain⟨w,hu,o⟩:=R.obj n _ hn;obtain⟨vs,rfl,iv⟩:=o;unfold Is at ia ib;obtain⟨hk,rfl⟩:=ia;obtain⟨p',vs',rfl,h1',hn',h2'⟩:=ib;obtain⟨hl,w⟩:=CY R (iv.append h2') e q;exact TR pins s σ H _ _ v u Q I rx ry ⟨_,p',vs,vs',rfl,rfl,hu,h1',by rw[←AAH];exact hl,w⟩
   ·cases e
  |_=>cases e
 |_=>exact Wl pins s σ H _ _ v u Q I rx ry ⟨ι,μ,_,b,d,μ',R,ia,ib,e,q⟩
end
end Mi
namespace Mi
open PySem L2 PyProof.Rows
section
variable{X:Cx}{e a b c:Expr}{pos:Pos}
theorem TQ:OpR X (binaryOp .Add) (λx y H Q=>∃a b ys,x=.ref a/\y=.ref b/\SqT X.kw H a []/\SqT X.kw H b ys/\Q (.ref b) H):=by
 intro pins s σ H x y v u Q I rx ry h;obtain⟨a,b,ys,rfl,rfl,ha,hb,q⟩:=h;cases rx;cases ry;obtain⟨its,r1,p1,_⟩:=I.tuple ha;obtain⟨its2,r2,p2,_⟩:=I.tuple hb;cases r1;obtain⟨⟨cls,dd,data,sl⟩,ho,hc,n,hd⟩:=p1;obtain⟨⟨cls2,dd2,data2,sl2⟩,ho2,hc2,n2,hd2⟩:=p2;simp only at hc hd hc2 hd2;subst hc hd hc2 hd2;exact concat_meets ⟨_,ho,rfl⟩ ⟨_,ho2,rfl⟩ noFill_tuple_add seq_tuple_add PySem.F.slot_tuple_add PySem.F.entry_tuple_add (PySem.F.args_tuple_add_2 _ _) (tuple_addW0 a b _ _ n n2 dd dd2 sl sl2 rfl) ⟨ho,ho2,⟨.ref b,H,I,rfl,q⟩⟩
noncomputable def A0(a b:D):M D:=match a,b with
 | .tup [],.tup ds=>ret (.tup ds)
 |a,b=>O5 a b
theorem A6:OpR X (binaryOp .Add) (rM X.kw A0):=λpins s σ H x y v u Q I rx ry h=>by
 obtain⟨ι,μ,a,b,d,μ',R,ia,ib,e,q⟩:=h;unfold A0 at e;split at e
 ·rename_i ds;cases e;unfold Is at ia;obtain⟨p,vs,rfl,h1,h2⟩:=ia;unfold IsL at h2;subst h2;have ib2:=ib;unfold Is at ib;obtain⟨p',vs',rfl,h1',h2'⟩:=ib;exact TQ pins s σ H _ _ v u Q I rx ry ⟨p,p',vs',rfl,rfl,h1,h1',q ι H R.ext0 R _ ib2⟩
 ·exact Wl pins s σ H x y v u Q I rx ry ⟨ι,μ,_,_,d,μ',R,ia,ib,e,q⟩
theorem JV{prog:Program}{w:World}{A:Around}{E:Value->Shared->Prop}{s:Shared}{vl vu:Value}{lo hi:Option Int}{Q:Value->Shared->Prop}(ht:IsTup s.heap t items)(hs:s.heap.IsSliceOf sl vl vu .none)(pl:IsPart vl lo)(pu:IsPart vu hi)
  (h1:HT.sIx items.size 0 lo=0) (h2:HT.sIx items.size items.size hi=items.size) (h:Q (.ref t) s):wpAny (model prog w) A (getItem (.ref t) (.ref sl)) Q E s:=by
 obtain⟨os,hos,hcs,hds⟩:=id hs;have hTs:s.TypeIs (.ref sl) "slice" := ⟨os,hos,hcs⟩;unfold getItem
 try with_reducible refine AAo ?_
 first|refine AAA (AAB ?_)|skip
 refine AAA (wpAny_sequenceKey ht.typeIs (by decide) ?_);refine AAA (wpAny_callSpecial?_slot (name:=Str.ofString "__getitem__") ht.typeIs PyProof.Rows.slot_tuple_getitem
  (AAd PyProof.Rows.slot_tuple_getitem ht.typeIs entry_tuple_getitem ?_ (args_tuple_getitem _ _)))
 show wpAny _ _ (Builtin.Tuple.tupleItemsOf (.ref t) >>= _) _ _ s;refine AAA (tupleItemsOf_ ht ?_);refine AAA (wpAny_typeOf hTs ?_);rw[if_pos (by decide)];refine AAA (HT.DU hs pl pu ?_);have hyes:((((HT.sIx items.size 0 lo:Nat):Int)==0&&(1:Int)==1&&(HT.sIx items.size items.size hi-HT.sIx items.size 0 lo)==items.size)=true):=by rw[h1,h2];simp
 show wpAny _ _ (if (((HT.sIx items.size 0 lo:Nat):Int)==0&&(1:Int)==1&&(HT.sIx items.size items.size hi-HT.sIx items.size 0 lo)==items.size)=true then _ else _) _ _ s;rw[if_pos hyes];refine AAA (m:=Builtin.Tuple.tupleIsExact (.ref t)) ?_;unfold Builtin.Tuple.tupleIsExact;refine AAA (wpAny_typeOf ht.typeIs (AAB ?_));rw[if_pos (by decide)];refine AAA (wpAny_rule ?_);exact AAB ⟨_,rfl,AAB h⟩
theorem U3:SlR X (λx lo hi H Q=>∃a xs,x=.ref a/\SqT X.kw H a xs/\HT.sIx xs.length 0 lo=0/\HT.sIx xs.length xs.length hi=xs.length/\Q (.ref a) H):=by
 intro pins s σ H x v vl vu lo hi sl Q I rx hs pl pu h;obtain⟨a,xs,rfl,hx,h1,h2,q⟩:=h;cases rx;obtain⟨its,r,ht,hz⟩:=I.tuple hx;have hlen:its.toArray.size=xs.length:=by rw[List.size_toArray];exact r.length.symm
 refine⟨"tuple",_,PyProof.Rows.slot_tuple_getitem.lookup,ht.typeIs,?_⟩;exact JV ht hs pl pu (by rw[hlen];exact h1) (by rw[hlen];exact h2) ⟨.ref a,H,I,rfl,q⟩
theorem UF{ds:List D}{lo hi:Option Int}(h1:HT.sIx ds.length 0 lo=0)(h2:HT.sIx ds.length ds.length hi=ds.length):Mv ds lo hi=ds:=by
 unfold Mv;rw[h1,h2];simp
noncomputable def Wh(lo hi:Option Int):D->M D
 | .tup ds=>ret (.tup (Mv ds lo hi))
 |d=>bnd (DC d) λds=>ret (.lst (Mv ds lo hi))
noncomputable def be(K:KW):V->Option Int->Option Int->Hp->VK->Prop:=λx lo hi H Q=>∃ι μ a d μ',RelH K ι μ H/\Is K ι μ.length H a x/\Wh lo hi a μ=some (d,μ') /\
 Aft K ι μ H μ' λι' H'=>∀v,Is K ι' μ'.length H' d v->Q v H'
theorem Z2:SlR X (be X.kw):=λpins s σ H x v vl vu lo hi sl Q I rx hs pl pu h=>by
 obtain⟨ι,μ,a,d,μ',R,ia,e,q⟩:=h;by_cases c:∃ds,a=.tup ds/\HT.sIx ds.length 0 lo=0/\HT.sIx ds.length ds.length hi=ds.length
 ·obtain⟨ds,rfl,h1,h2⟩:=c;have e:some (D.tup (Mv ds lo hi),μ)=some (d,μ'):=e;rw[UF h1 h2] at e;cases e;have ia2:=ia;unfold Is at ia;obtain⟨p,vs,rfl,g1,g2⟩:=ia;exact U3 pins s σ H _ v vl vu lo hi sl Q I rx hs pl pu ⟨p,vs,rfl,g1,by rw[g2.length];exact h1,by rw[g2.length];exact h2,q ι H R.ext0 R _ ia2⟩
 ·refine bi pins s σ H x v vl vu lo hi sl Q I rx hs pl pu ⟨ι,μ,a,d,μ',R,ia,?_,q⟩;cases a with
  |tup ds=>
   show (if HT.sIx ds.length 0 lo=0/\HT.sIx ds.length ds.length hi=ds.length then (BK:M D) else ret (D.tup (Mv ds lo hi))) μ=_;rw[if_neg (λz=>c ⟨ds,rfl,z.1,z.2⟩)];exact e
  |_=>exact e
noncomputable def CP(me:Sl->M D)(ml mh:Sl->M (Option Int)):Sl->M D:=λτ=>bnd (me τ) λx=>bnd (ml τ) λl=>bnd (mh τ) λh=>Wh l h x
theorem BH{e:Expr}{lo hi:Option Expr}(he:RE X e me)(hl:RO X lo ml)(hh:RO X hi mh):RE X (.Subscript e (.Slice lo hi none p2) pos) (CP me ml mh):=RE.wk (S9 Z2 he.pe hl.pe hh.pe) λσ H Q h=>by
 obtain⟨ι,μ,τ,z,μ',R,S,e,q⟩:=h;obtain⟨x,μ1,e1,e⟩:=AL e;obtain⟨l,μ2,e2,e⟩:=AL e;obtain⟨u,μ3,e3,e⟩:=AL e;refine⟨ι,μ,τ,x,μ1,R,S,e1,λι1 H1 E1 R1 v i1=>⟨ι1,μ1,τ,l,μ2,R1,S.ext E1,e2,λι2 H2 E2 R2=>⟨ι2,μ2,τ,u,μ3,R2,S.ext (E1.trans E2),e3,λι3 H3 E3 R3=>?_⟩⟩⟩;have E23:=E2.trans E3;exact⟨ι3,μ3,x,z,μ',R3,i1.ext E23,e,λι4 H4 E4 R4=>q ι4 H4 ((E1.trans E23).trans E4) R4⟩
end
end Mi
namespace Mi
open PySem L2
open PyProof.Rows hiding St
section
variable{X:Cx}{e o:Expr}{apos cpos:Pos}
noncomputable def Dw(g:D->List D->M D)(mo:Sl->M D):Sl->M D:=λτ=>bnd (mo τ) λx=>bnd (Fh x) λ_=>g x []
theorem QA{K:KW}{g:D->List D->M D}{mo:Sl->M D}(h:tE K (Dw g mo) σ H Q):Zd K "list" (rMM K g) (tE K mo) σ H Q:=by
 obtain⟨ι,μ,τ,d,μ',R,S,e,q⟩:=h;obtain⟨x,μ1,e1,ee1⟩:=AL e;obtain⟨u,μ2,e2,ee2⟩:=AL ee1;have hm:=Gv e2;subst hm;refine⟨ι,μ,τ,x,_,R,S,e1,λι1 H1 E1 R1 v1 i1=>⟨(HM R1 i1 e2).2,?_⟩⟩;exact⟨ι1,_,x,[],d,μ',R1,i1,IsL.nil,ee2,λι3 H3 E3 R3=>q ι3 H3 (E1.trans E3) R3⟩
theorem Gf{name:Str}{id:String}(slot:Slot "list" name id)(hty:typeOf (.builtin id)=pure (.type "method_descriptor"))(hm:MtR X id (rMM X.kw g))(ho:RE X o mo)
  (hbase:attributeBase o name X.env (eval o X.env)=eval o X.env:=by rfl) (hline:(apos.endLine==cpos.line)=true:=by rfl) :
  RE X (.Call (.Attribute o name apos) [] [] cpos) (Dw g mo):=RE.wk (YD PySem.F.plainAttrs_list slot hty hm ho.pe hbase hline) λ_ _ _ h=>QA h
end
section
variable{X:Cx}{e a b o:Expr}
noncomputable def J7:List D->Option (List Int)
 |[]=>some []
 | .int i::ds=>(J7 ds).map (i::·)
 |_=>none
theorem MW{K:KW}{ι:Nat->Addr}:∀{ds:List D} {vs:List V} {ns:List Int},IsL K ι k H ds vs->J7 ds=some ns->vs=ns.map V.int
 |[],_,_,h,e=>by cases e;unfold IsL at h;exact h
 | .int b::ds,_,_,h,e=>by
  unfold IsL at h;obtain⟨v,vs',rfl,h1,h2⟩:=h;unfold J7 at e;cases q:J7 ds with
  |none=>rw[q] at e;cases e
  |some bs=>
   rw[q] at e;cases e;unfold Is at h1;rw[h1,MW h2 q];rfl
 | .non::_,_,_,_,e=>by cases e
 | .bl _::_,_,_,_,e=>by cases e
 | .str _::_,_,_,_,e=>by cases e
 | .ty _::_,_,_,_,e=>by cases e
 | .scr _::_,_,_,_,e=>by cases e
 | .tup _::_,_,_,_,e=>by cases e
 | .lst _::_,_,_,_,e=>by cases e
 | .ref _::_,_,_,_,e=>by cases e
theorem Mg:∀{ys:List V} {us:List Value} {j:Nat},Vals ys us->ys.all C8=true->ys.findIdx? (λz=>eqV z y)=some j->∃hj:j<us.length,eqU y us[j]=true/\∀m (hm:m<us.length),m<j->eqU y us[m]=false
 |_,_,j,.nil,_,e=>by simp at e
 |z::ys,u::us,j,.cons r t,f,e=>by
  rw[List.all_cons,Bool.and_eq_true] at f;rw[List.findIdx?_cons] at e;cases hz:eqV z y with
  |true=>
   rw[hz] at e;simp at e;subst e;exact⟨by simp,by show eqU y u=true;rw[LF r f.1,hz],λm hm h=>by omega⟩
  |false=>
   rw[hz] at e;cases q:ys.findIdx? (λz=>eqV z y) with
   |none=>rw[q] at e;simp at e
   |some k=>
    rw[q] at e;simp at e;subst e;obtain⟨hk,h1,h2⟩:=Mg t f.2 q;refine⟨by simp;omega,by simpa using h1,λm hm h=>?_⟩;cases m with
    |zero=>show eqU y u=false;rw[LF r f.1,hz]
    |succ m=>simpa using h2 m (by simpa using hm) (by omega)
noncomputable abbrev bg(Sq:Hp->Addr->List V->Prop):V->List V->Hp->VK->Prop:=λx xs H Q=>∃p ys y j,x=.ref p/\xs=[y]/\Sq H p ys/\C8 y=true/\ys.all C8=true/\ys.findIdx? (λz=>eqV z y)=some j/\Q (.int j) H
theorem JS:MtR X "list.index" (bg λH p ys=>SqL X.kw H p ys):=by
 intro pins s σ H x xs v us Q I rx rs h;obtain⟨p,ys,y,j,rfl,rfl,hp,fy,fys,hj,q⟩:=h;cases rx;obtain⟨u,rfl,ru⟩:=Hi rs;obtain⟨its,rv,pl,hz⟩:=I.list hp;have hl:=rv.length;obtain⟨⟨cls,dd,data,sl⟩,ho,hc,n,hd⟩:=pl.isList;simp only at hc hd;subst hc hd;obtain⟨hj2,e1,e2⟩:=Mg rv fys hj;have hn:=Gm;refine call_meets PySem.F.slot_list_index ⟨_,ho,rfl⟩ PySem.F.entry_list_index (PySem.F.args_list_index_2 _ _) (SeqAt.list_indexAt _ its.toArray n dd sl u (eqU y) j (by rw[List.size_toArray];exact hj2) (by omega) (by simpa using e1) (λm hm h=>by simpa using e2 m (by simpa using hm) h)) ⟨ho,λw hw=>DZ ru fy rv fys w (by simpa using hw),?_⟩;exact⟨.int j,H,I.tok _,⟨_,rfl⟩,q⟩
noncomputable def Yf:D->List D->M D
 |d,[y]=>bnd (Co d) λds=>λμ=>match Mf y,Gy ds with
  |some y,some xs=>(xs.findIdx? λz=>eqV z y).map λ(j:Nat)=>(D.int (j:Int),μ)
  |_,_=>none
 |_,_=>BK
theorem Qs{d r:D}{μ μ':Mh}{K:KW}{ι:Nat->Addr}(R:RelH K ι μ H)(ia:Is K ι μ.length H d x)(ib:IsL K ι μ.length H as xs)(e:Yf d as μ=some (r,μ')):
  ∃p ys y j,x=.ref p/\xs=[y]/\(SqL K H p ys∨SqT K H p ys)/\C8 y=true/\ys.all C8=true/\ys.findIdx? (λz=>eqV z y)=some j/\r=.int j/\μ'=μ:=by
 unfold Yf at e;split at e
 ·rename_i y0;obtain⟨ds,μ1,e1,e2⟩:=AL e;obtain⟨hm,p,vs,rfl,h1,h2⟩:=CV R ia e1;subst hm;obtain⟨v,rfl,i1⟩:=Gq ib;split at e2
  ·rename_i w ws q1 q2;obtain⟨rfl,f1⟩:=Ih i1 q1;obtain⟨rfl,f2⟩:=Gx h2 q2;cases hj:vs.findIdx? (λz=>eqV z v) with
   |none=>rw[hj] at e2;cases e2
   |some j=>rw[hj] at e2;cases e2;exact⟨p,vs,v,j,rfl,rfl,h1,f1,f2,hj,rfl,rfl⟩
  ·cases e2
 ·cases e
noncomputable def Tq(d:D)(as:List D):M D:=bnd (Fh d) λ_=>Yf d as
theorem MK:MtR X "list.index" (rMM X.kw Tq):=λpins s σ H x xs v us Q I rx rs h=>by
 obtain⟨ι,μ,a,as,d,μ',R,ia,ib,e,q⟩:=h;obtain⟨u,μ1,e1,e2⟩:=AL e;have hm:=Gv e1;subst hm;obtain⟨ds,μ2,g1,g2⟩:=AL e1;obtain⟨_,p0,vs0,hx,hq,_⟩:=Bw R ia g1;obtain⟨p,ys,y,j,rfl,rfl,h1,f1,f2,hj,rfl,rfl⟩:=Qs R ia ib e2;cases hx;have hs:SqL X.kw H p0 ys:=by
  rcases h1 with z|z
  ·exact z
  ·obtain⟨its,_,pl,_⟩:=I.list hq;obtain⟨its2,_,pt,_⟩:=I.tuple z;obtain⟨o,e1,c1,_⟩:=pl.isList;obtain⟨o2,e2,c2,_⟩:=pt;rw[e1] at e2;cases e2;rw[c1] at c2;exact absurd c2 (by decide)
 exact JS pins s σ H _ _ v us Q I rx rs ⟨p0,ys,y,j,rfl,rfl,hs,f1,f2,hj,q ι H R.ext0 R _ (ofI _)⟩
end
end Mi
namespace Mi
open PySem L2
end Mi
local macro_rules | `(tactic| wtm_at "r")=>`(tactic| repeat first|exact Mi.pu_slot|exact Mi.pu_c|exact Mi.pu_true|exact Mi.pu_ix|exact Mi.pu_eqB|exact Mi.pu_nil|exact Mi.pu_inst|exact Mi.pu_len|apply Mi.pu_test|apply Mi.pu_op|apply Mi.pu_cons|apply Mi.pu_disp|apply Mi.pu_or|apply Mi.pu_and|apply Mi.pu_not)
namespace Ht
open PySem PySem.SetTable
abbrev Ris(l:List Nat):Prop:=l.Pairwise (· < ·)
theorem NZ{xs:Array Nat}(r:Ris xs.toList)(hk:k<xs.size)(h:i<k):xs[i]'(Nat.lt_trans h hk)<xs[k]:=by
 have:=List.pairwise_iff_getElem.mp r i k (by simpa using Nat.lt_trans h hk) (by simpa using hk) h;simpa using this
theorem Sa{xs:Array Nat}(r:Ris xs.toList)(hk:k<xs.size)(h:i<=k):xs[i]'(AAr h hk)<=xs[k]:=by
 rcases Nat.lt_or_eq_of_le h with z|z
 ·exact Nat.le_of_lt (NZ r hk z)
 ·subst z;exact AAF _
structure Bel(xs:Array Nat)(j b:Nat):Prop where
 le:b<=xs.size
 lo:∀i (h:i<xs.size),i<b->xs[i]<j
 hi:∀i (h:i<xs.size),b<=i->j<=xs[i]
theorem JB{xs:Array Nat}(r:Ris xs.toList):∀BO lo hi,lo<=hi->hi<=xs.size->hi-lo<=BO->(∀i (h:i<xs.size),i<lo->xs[i]<j)->(∀i (h:i<xs.size),hi<=i->j<=xs[i])->Bel xs j (below.go xs j BO lo hi)
 |0,lo,hi,h1,h2,h3,h4,h5=>by
  have:lo=hi:=by omega
  subst this;exact⟨h2,h4,h5⟩
 |BO+1,lo,hi,h1,h2,h3,h4,h5=>by
  unfold below.go;by_cases z:lo<hi
  ·rw[if_pos z];have hm:(lo+hi) / 2<hi:=by omega
   have hm2:lo<=(lo+hi) / 2:=by omega
   have hs:(lo+hi) / 2<xs.size:=by omega
   have e:xs.getD ((lo+hi) / 2) j=xs[(lo+hi) / 2]:=by simp[Array.getD,hs]
   dsimp only;rw[e];by_cases q:xs[(lo+hi) / 2]<j
   ·rw[if_pos q];exact JB r BO _ hi (by omega) h2 (by omega) (λi h hi'=>AAr (Sa r hs (by omega)) q) h5
   ·rw[if_neg q];exact JB r BO lo _ hm2 (by omega) (by omega) h4 (λi h hi'=>AAs (Nat.le_of_not_lt q) (Sa r h hi'))
  ·rw[if_neg z];have:lo=hi:=by omega
   subst this;exact⟨h2,h4,h5⟩
theorem D6(r:Ris xs.toList)(j:Nat):Bel xs j (below xs j):=
 JB r _ 0 _ (AAk _) (AAF _) (by omega) (λi _ h=>absurd h (by omega)) (λi h h2=>absurd h2 (by omega))
theorem UW{xs:Array Nat}(r:Ris xs.toList)(hk:k<xs.size):below xs xs[k]=k:=by
 have b:=D6 r xs[k];rcases Nat.lt_trichotomy (below xs xs[k]) k with z|z|z
 ·have h1:=b.hi _ (Nat.lt_trans z hk) (AAF _);have h2:=NZ r hk z;omega
 ·exact z
 ·have:=b.lo k hk z;omega
theorem OH{xs:Array Nat}(r:Ris xs.toList)(hk:k<xs.size):below xs (xs[k]+1)=k+1:=by
 have b:=D6 r (xs[k]+1);rcases Nat.lt_trichotomy (below xs (xs[k]+1)) (k+1) with z|z|z
 ·have h1:=b.hi k hk (by omega);omega
 ·exact z
 ·have h1:=b.lo (k+1) (by have:=b.le;omega) z;have h2:=NZ r (k:=k+1) (i:=k) (by have:=b.le;omega) (by omega);omega
theorem OG(r:Ris xs.toList):below xs 0=0:=by
 have b:=D6 r 0;rcases Nat.eq_zero_or_pos (below xs 0) with z|z
 ·exact z
 ·have:=b.lo 0 (by have:=b.le;omega) z;omega
theorem SF{t:SetTable}(r:Ris t.place.toList)(h:j∈t.place.toList):∃i,t.slot j=.live i:=by
 obtain⟨k,hk,e⟩:=List.getElem_of_mem h;have hk':k<t.place.size:=by simpa using hk
 have e':t.place[k]=j:=by simpa using e
 refine⟨k,?_⟩;unfold slot;have b:below t.place j=k:=by rw[←e'];exact UW r hk'
 dsimp only;rw[b,if_pos (by simp[hk',e'])]
theorem Dl{t:SetTable}(d:t.dummies=#[])(j:Nat):t.slot j≠.dummy:=by
 unfold slot;dsimp only;split
 ·exact λh=>by cases h
 ·rw[d];have:has (#[]:Array Nat) j=false:=by unfold has;simp
  rw[this];exact λh=>by cases h
theorem QF{t:SetTable}(h:t.slot j=.live i):j∈t.place.toList:=by
 unfold slot at h;dsimp only at h;split at h
 ·rename_i e;have e':t.place[below t.place j]?=some j:=by simpa using e
  obtain⟨hk,e2⟩:=Array.getElem?_eq_some_iff.mp e';rw[←e2];simp
 ·split at h<;>cases h
theorem VD(r:Ris xs.toList)(h:j∉xs.toList):Ris (insertAt xs (below xs j) j).toList:=by
 have b:=D6 r j;rw[toList_insertAt];refine List.pairwise_append.mpr ⟨List.Pairwise.sublist (List.take_sublist _ _) r,AA2.mpr ⟨λy hy=>?_,List.Pairwise.sublist (List.drop_sublist _ _) r⟩,λx hx y hy=>?_⟩
 ·obtain⟨i,hi,e⟩:=List.getElem_of_mem hy;rw[List.getElem_drop] at e;have hs:below xs j+i<xs.size:=by simp at hi;omega
  have:=b.hi _ hs (Nat.le_add_right _ _);have e2:xs[below xs j+i]=y:=by simpa using e
  have hne:y≠j:=λz=>h (by rw[←z];exact List.mem_of_mem_drop hy);omega
 ·have hxj:x<j:=by
   obtain⟨i,hi,e⟩:=List.getElem_of_mem hx;rw[List.getElem_take] at e;have hi2:i<below xs j/\i<xs.size:=by
    have:i<min (below xs j) xs.size:=by simpa using hi
    omega
   have e2:xs[i]'hi2.2=x:=by simpa using e
   have:=b.lo _ hi2.2 hi2.1;omega
  rcases AAJ.mp hy with z|z
  ·rw[z];exact hxj
  ·obtain⟨i,hi,e⟩:=List.getElem_of_mem z;rw[List.getElem_drop] at e;have hs:below xs j+i<xs.size:=by simp at hi;omega
   have:=b.hi _ hs (Nat.le_add_right _ _);have e2:xs[below xs j+i]=y:=by simpa using e
   omega
noncomputable def lp(mask:Nat):Nat->Nat×Nat->Nat×Nat
 |0,x=>x
 |n+1,x=>lp mask n (leap mask x.1 x.2)
theorem IT(mask:Nat):∀(a b:Nat) (x:Nat×Nat),lp mask (a+b) x=lp mask b (lp mask a x)
 |0,b,x=>by rw[Nat.zero_add];rfl
 |a+1,b,x=>by
  rw[show a+1+b=(a+b)+1 from by omega];exact IT mask a b _
theorem Nt(mask:Nat):∀(n:Nat) (x:Nat×Nat),(lp mask n x).2=x.2 / 32 ^ n
 |0,x=>by simp[lp]
 |n+1,x=>by
  show (lp mask n (leap mask x.1 x.2)).2=_;rw[Nt mask n];show x.2 / 32 / 32 ^ n=_;rw[Nat.div_div_eq_div_mul,Nat.pow_succ,Nat.mul_comm]
theorem Ws(mask:Nat):∀(n:Nat) (x:Nat×Nat),x.1<mask+1->(lp mask n x).1<mask+1
 |0,x,h=>h
 |n+1,x,h=>Ws mask n _ (Nat.mod_lt _ (by omega))
theorem Xo:∀i,i<8->∀j,j<8->∃n,n<8/\(lp 7 n (i,0)).1=j:=by decide +kernel
theorem VC:∀i,i<16->∀j,j<16->∃n,n<16/\(lp 15 n (i,0)).1=j:=by decide +kernel
theorem VB:∀i,i<32->∀j,j<32->∃n,n<32/\(lp 31 n (i,0)).1=j:=by decide +kernel
theorem TM:∀j,j<128->∃n,n<128/\(lp 127 n (0,0)).1=j:=by decide +kernel
theorem Ng:lp 127 128 (0,0)=(0,0):=by decide +kernel
theorem SX(i:Nat)(hi:i<128)(j:Nat)(hj:j<128):∃n,n<128/\(lp 127 n (i,0)).1=j:=by
 obtain⟨a,ha,ea⟩:=TM i hi;obtain⟨b,hb,eb⟩:=TM j hj;have z:∀n,(lp 127 n (0,0)).2=0:=λn=>by rw[Nt];exact Nat.zero_div _
 have ia:(i,0)=lp 127 a (0,0):=by rw[←ea];exact Prod.ext rfl (z a).symm
 by_cases h:a<=b
 ·refine⟨b-a,by omega,?_⟩;rw[ia,←IT,show a+(b-a)=b by omega];exact eb
 ·refine⟨b+128-a,by omega,?_⟩;rw[ia,←IT,show a+(b+128-a)=128+b by omega,IT,Ng];exact eb
abbrev Sm(mask:Nat):Prop:=mask=7∨mask=15∨mask=31∨mask=127
theorem XE{mask:Nat}(hm:Sm mask)(hi:i<mask+1)(hp:p<2 ^ 64)(hj:j<mask+1):∃n,n<turns mask/\(lp mask n (i,p)).1=j:=by
 have h0:(lp mask 13 (i,p)).2=0:=by
  rw[Nt];exact Nat.div_eq_of_lt (Nat.lt_trans hp (by decide))
 have h1:=Ws mask 13 (i,p) hi;have e:lp mask 13 (i,p)=((lp mask 13 (i,p)).1,0):=by rw[←h0]
 have:∃n,n<mask+1/\(lp mask n ((lp mask 13 (i,p)).1,0)).1=j:=by
  rcases hm with z|z|z|z<;>subst z
  ·exact Xo _ h1 j hj
  ·exact VC _ h1 j hj
  ·exact VB _ h1 j hj
  ·exact SX _ h1 j hj
 obtain⟨n,h2,h3⟩:=this;refine⟨13+n,by unfold turns;omega,?_⟩;rw[IT,e];exact h3
theorem Pl(h:Int):bits h<2 ^ 64:=by
 unfold bits;have h1:=Int.emod_nonneg h (show (2 ^ 64:Int)≠0 by decide);have h2:=AAZ h (show (0:Int)<2 ^ 64 by decide);omega
noncomputable abbrev start(t:SetTable)(i pt:Nat):Probe:={ j:=i,more:=runEnd t.mask i-i,i:=i,perturb:=pt,dummy:=none }
theorem Js{t:SetTable}(d:t.dummies=#[])(hf:∀i,f i≠h):∀(BO:Nat) (p:Probe) (m:Met),p.dummy=none->probe.go t f h BO p=some m->∃j,m=.empty j none/\t.slot j=.empty
 |0,p,m,hp,e=>by cases e
 |BO+1,p,m,hp,e=>by
  unfold probe.go at e;have hadv:(t.advance p).dummy=none:=by
   unfold advance;split
   ·exact hp
   ·exact hp
  split at e
  ·rename_i q;cases e;exact⟨p.j,by rw[hp],q⟩
  ·rename_i q;exact absurd q (Dl d _)
  ·rename_i i q;rw[if_neg (by simpa using hf i)] at e;exact Js d hf BO _ m hadv e
theorem Lx{t:SetTable}(d:t.dummies=#[])(hf:∀i,f i≠h):∀(more BO j i pt:Nat),probe.go t f h (BO+more+1) { j:=j,more:=more,i:=i,perturb:=pt,dummy:=none }=none->
  t.slot j≠.empty/\probe.go t f h BO (start t (leap t.mask i pt).1 (leap t.mask i pt).2)=none
 |0,BO,j,i,pt,e=>by
  unfold probe.go at e;split at e
  ·cases e
  ·rename_i q;exact absurd q (Dl d _)
  ·rename_i k q;rw[if_neg (by simpa using hf k)] at e;have q':t.slot j=.live k:=q;refine⟨by rw[q'];exact λz=>(by cases z),?_⟩;have:t.advance { j:=j,more:=0,i:=i,perturb:=pt,dummy:=none }=start t (leap t.mask i pt).1 (leap t.mask i pt).2:=rfl;rw[this] at e;exact e
 |more+1,BO,j,i,pt,e=>by
  rw[show BO+(more+1)+1=(BO+more+1)+1 from by omega] at e;unfold probe.go at e;split at e
  ·cases e
  ·rename_i q;exact absurd q (Dl d _)
  ·rename_i k q;rw[if_neg (by simpa using hf k)] at e;have q':t.slot j=.live k:=q;refine⟨by rw[q'];exact λz=>(by cases z),?_⟩;have:t.advance { j:=j,more:=more+1,i:=i,perturb:=pt,dummy:=none }={ j:=j+1,more:=more,i:=i,perturb:=pt,dummy:=none }:=by
    unfold advance;rw[if_pos (by simp)];rfl
   rw[this] at e;exact(Lx d hf more BO (j+1) i pt e).2
theorem Jp(d:t.dummies=#[])(hf:∀i,f i≠h):∀(m BO i pt:Nat),10 * m<=BO->probe.go t f h BO (start t i pt)=none->∀n,n<m->t.slot (lp t.mask n (i,pt)).1≠.empty
 |0,_,_,_,_,_,n,hn=>absurd hn (by omega)
 |m+1,BO,i,pt,hl,e,n,hn=>by
  have hr:runEnd t.mask i-i<=9:=by unfold runEnd;split<;>omega
  have ef:BO=(BO-(runEnd t.mask i-i)-1)+(runEnd t.mask i-i)+1:=by omega
  rw[ef] at e;obtain⟨h1,h2⟩:=Lx d hf _ _ _ _ _ e;cases n with
  |zero=>exact h1
  |succ n=>exact Jp d hf m _ _ _ (by omega) h2 n (by omega)
theorem MG[DecidableEq α]:∀{l r:List α},l.Nodup->(∀x∈l,x∈r)->l.length<=r.length
 |[],_,_,_=>AAk _
 |a::l,r,hn,hs=>by
  obtain⟨h1,h2⟩:=List.nodup_cons.mp hn;have ha:=hs a (AAQ ..);have:=MG (r:=r.erase a) h2 λx hx=>(List.mem_erase_of_ne (λz=>h1 (by rw[←z];exact hx))).mpr (hs x (AAR _ hx));rw[List.length_erase_of_mem ha] at this;have hp:=List.length_pos_of_mem ha;simp only[AAI];omega
theorem WD{t:SetTable}(d:t.dummies=#[])(hm:Sm t.mask)(r:Ris t.place.toList)(hs:t.place.size<=t.mask)(h:Int):∃j,t.freeSlot h=some (j,false)/\t.slot j=.empty:=by
 have hf:∀i:Nat,(λ_:Nat=>h+1) i≠h:=λi=>by show h+1≠h;omega
 unfold freeSlot;cases e:t.probe (λ_=>h+1) h (t.probeStart h) with
 |some m=>
  obtain⟨j,rfl,q⟩:=Js d hf _ _ m rfl e;exact⟨j,rfl,q⟩
 |none=>
  exfalso;have e':probe.go t (λ_=>h+1) h (10 * turns t.mask) (start t (bits h % (t.mask+1)) (bits h))=none:=e;have hv:=Jp d hf (turns t.mask) _ _ _ (AAF _) e';have all:∀j∈List.range (t.mask+1),j∈t.place.toList:=λj hj=>by
   obtain⟨n,h1,h2⟩:=XE hm (i:=bits h % (t.mask+1)) (p:=bits h) (Nat.mod_lt _ (by omega)) (Pl h) (List.mem_range.mp hj);have h3:=hv n h1;rw[h2] at h3;cases q:t.slot j with
   |empty=>exact absurd q h3
   |dummy=>exact absurd q (Dl d _)
   |live i=>exact QF q
  have:=MG List.nodup_range all;simp at this;omega
theorem Ig:∀{l:List α},(∀x∈l,f x=g x)->l.filterMap f=l.filterMap g
 |[],_=>rfl
 |a::l,h=>by
  have h1:=h a (AAQ ..);have h2:=Ig (l:=l) λx hx=>h x (AAR _ hx);cases q:g a with
  |none=>rw[List.filterMap_cons_none (h1.trans q),List.filterMap_cons_none q,h2]
  |some b=>rw[AAv (h1.trans q),AAv q,h2]
theorem T0(hj:f j=none)(hg:g j=some b)(ho:∀i,i≠j->g i=f i):∀{l:List Nat},l.Nodup->j∈l->(l.filterMap g).Perm (b::l.filterMap f)
 |[],_,h=>by cases h
 |a::l,hn,h=>by
  obtain⟨h1,h2⟩:=List.nodup_cons.mp hn;by_cases e:a=j
  ·subst e;have same:l.filterMap g=l.filterMap f:=Ig λi hi=>ho i λz=>h1 (by rw[←z];exact hi);rw[AAv hg,List.filterMap_cons_none hj,same]
  ·have hl:j∈l:=(AAJ.mp h).resolve_left λz=>e z.symm;have ih:=T0 hj hg ho h2 hl;cases q:f a with
   |none=>rw[List.filterMap_cons_none ((ho a e).trans q),List.filterMap_cons_none q];exact ih
   |some c=>
    rw[AAv ((ho a e).trans q),AAv q];exact(ih.cons c).trans (List.Perm.swap b c _)
theorem Mb{mask:Nat}:∀(BO i pt j:Nat),layClean.free mask owner BO i pt=some j->owner.getD j (some 0)=none
 |0,_,_,_,e=>by cases e
 |BO+1,i,pt,j,e=>by
  unfold layClean.free at e;split at e
  ·rename_i k q;cases e;have:=List.find?_some q;simpa using this
  ·exact Mb BO _ _ j e
theorem KB{mask:Nat}:∀(m i pt:Nat),layClean.free mask owner m i pt=none->∀n,n<m->owner.getD (lp mask n (i,pt)).1 (some 0)≠none
 |0,_,_,_,n,hn=>absurd hn (by omega)
 |m+1,i,pt,e,n,hn=>by
  unfold layClean.free at e;split at e
  ·cases e
  ·rename_i q;cases n with
   |zero=>
    have hr:i<=runEnd mask i:=by unfold runEnd;split<;>omega
    have:=List.find?_eq_none.mp q 0 (List.mem_range.mpr (by omega));intro z;apply this;show (owner.getD (i+0) (some 0)).isNone=true;rw[Nat.add_zero];have z':owner.getD i (some 0)=none:=z;rw[z'];rfl
   |succ n=>exact KB m _ _ e n (by omega)
noncomputable abbrev own(mask:Nat)(owner:Array (Option Nat)):List Nat:=(List.range (mask+1)).filterMap λj=>owner.getD j none
theorem Qw{owner:Array (Option Nat)}(h:owner.getD j (some 0)=none):j<owner.size/\owner.getD j none=none:=by
 unfold Array.getD at h ⊢;split at h
 ·rename_i q;exact⟨q,by rw[dif_pos q];exact h⟩
 ·cases h
theorem Qx{owner:Array (Option Nat)}(hj:j<owner.size)(h:owner.getD j (some 0)≠none):∃k,owner.getD j none=some k:=by
 unfold Array.getD at h ⊢;rw[dif_pos hj] at h ⊢;cases e:owner[j] with
 |none=>exact absurd e h
 |some k=>exact⟨k,e⟩
theorem WE{mask:Nat}(hm:Sm mask)(hs:owner.size=mask+1)(hp:(own mask owner).Perm (List.range k))(hk:k<=mask)(h:Int):
  ∃j,layClean.free mask owner (turns mask) (bits h % (mask+1)) (bits h)=some j:=by
 cases e:layClean.free mask owner (turns mask) (bits h % (mask+1)) (bits h) with
 |some j=>exact⟨j,rfl⟩
 |none=>
  exfalso;have hv:=KB _ _ _ e;have len:∀l:List Nat,(∀j∈l,j<mask+1)->(l.filterMap λj=>owner.getD j none).length=l.length:=by
   intro l
   induction l with
   |nil=>intro _;rfl
   |cons a l ih=>
    intro ha;obtain⟨n,h1,h2⟩:=XE hm (i:=bits h % (mask+1)) (p:=bits h) (Nat.mod_lt _ (by omega)) (Pl h) (ha a (AAQ ..));have h3:=hv n h1;rw[h2] at h3;obtain⟨c,hc⟩:=Qx (by rw[hs];exact ha a (AAQ ..)) h3;rw[AAv (f:=λj=>owner.getD j none) hc,AAI,ih λj hj=>ha j (AAR _ hj),AAI]
  have h1:=len (List.range (mask+1)) λj hj=>List.mem_range.mp hj;have h2:=hp.length_eq;simp only[List.length_range] at h1 h2;have h3:(own mask owner).length=mask+1:=h1;omega
noncomputable def UP(mask:Nat)(acc:Option (Array (Option Nat)×Nat))(h:Int):Option (Array (Option Nat)×Nat):=do
 let (owner,k) ←acc
 let j ←layClean.free mask owner (turns mask) (bits h % (mask+1)) (bits h)
 pure (owner.setIfInBounds j (some k),k+1)
theorem My{mask:Nat}(hm:Sm mask):∀(l:List Int) (owner:Array (Option Nat)) (k:Nat),owner.size=mask+1->(own mask owner).Perm (List.range k)->k+l.length<=mask->
  ∃owner',l.foldl (UP mask) (some (owner,k))=some (owner',k+l.length)/\owner'.size=mask+1/\(own mask owner').Perm (List.range (k+l.length))
 |[],owner,k,hs,hp,_=>⟨owner,rfl,hs,hp⟩
 |h::l,owner,k,hs,hp,hk=>by
  obtain⟨j,e⟩:=WE hm hs hp (by omega) h;obtain⟨hj,hn⟩:=Qw (Mb _ _ _ _ e);have st:UP mask (some (owner,k)) h=some (owner.setIfInBounds j (some k),k+1):=by
   show ((layClean.free mask owner (turns mask) (bits h % (mask+1)) (bits h)).bind λj=>some (owner.setIfInBounds j (some k),k+1))=_;rw[e];rfl
  have hp':(own mask (owner.setIfInBounds j (some k))).Perm (List.range (k+1)):=by
   have:=T0 (f:=λj=>owner.getD j none) (g:=λi=>(owner.setIfInBounds j (some k)).getD i none) (b:=k) hn (by simp[Array.getD,hj]) (λi hi=>by
    simp only[Array.getD,Array.size_setIfInBounds];split
    ·rename_i hi2;show (owner.setIfInBounds j (some k))[i]'(by rw[Array.size_setIfInBounds];exact hi2)=owner[i];rw[Array.getElem_setIfInBounds_ne];exact hi.symm
    ·rfl) (List.nodup_range (n:=mask+1)) (List.mem_range.mpr (by omega))
   refine this.trans ((hp.cons k).trans ?_);rw[List.range_succ];exact(List.perm_append_singleton k (List.range k)).symm
  obtain⟨owner',e1,e2,e3⟩:=My hm l (owner.setIfInBounds j (some k)) (k+1) (by rw[Array.size_setIfInBounds];exact hs) hp' (by simp at hk;omega);refine⟨owner',?_,e2,?_⟩
  ·rw[List.foldl_cons,st,e1];simp only[AAI];rw[show k+1+l.length=k+(l.length+1) from by omega]
  ·rw[show k+(h::l).length=k+1+l.length from by simp only[AAI];omega];exact e3
theorem UK{mask:Nat}(hm:Sm mask)(hashes:Array Int)(hk:hashes.size<=mask):∃owner,layClean mask hashes=some owner/\owner.size=mask+1/\(own mask owner).Perm (List.range hashes.size):=by
 have h0:(own mask (Array.replicate (mask+1) none)).Perm (List.range 0):=by
  have:own mask (Array.replicate (mask+1) none)=[]:=by
   unfold own;rw[List.filterMap_eq_nil_iff];intro j hj;have:=List.mem_range.mp hj;simp[Array.getD,this]
  rw[this];exact List.Perm.refl _
 obtain⟨owner,e1,e2,e3⟩:=My hm hashes.toList (Array.replicate (mask+1) none) 0 (by simp) h0 (by simpa using hk);simp only[Nat.zero_add,Array.length_toList] at e1 e3;refine⟨owner,?_,e2,e3⟩;have:layClean mask hashes=(hashes.foldl (UP mask) (some (Array.replicate (mask+1) none,0))).map (·.1):=rfl;rw[this,←Array.foldl_toList,e1];rfl
theorem Vy{mask:Nat}(hm:Sm mask)(hashes:Array Int)(hk:hashes.size<=mask)(finger moves:Nat)(led plain:Bool):
  ∃place order,laid mask finger moves led plain hashes=some ({ mask,place,dummies:=#[],finger,led,moves,plain },order)/\Ris place.toList/\place.size=hashes.size/\order.toList.Perm (List.range hashes.size):=by
 obtain⟨owner,e1,e2,e3⟩:=UK hm hashes hk;unfold laid;rw[e1];refine⟨_,_,rfl,?_,?_,?_⟩
 ·simp only[];rw[List.map_filterMap];have:(List.range (mask+1)).filterMap (λx=>Option.map (λx=>x.1) (Option.map (λx_1=>(x,x_1)) (owner.getD x none)))=(List.range (mask+1)).filter λx=>(owner.getD x none).isSome:=by
   induction List.range (mask+1) with
   |nil=>rfl
   |cons a l ih=>
    cases q:owner.getD a none with
    |none=>rw[List.filterMap_cons_none (by rw[q];rfl),List.filter_cons_of_neg (by rw[q];simp),ih]
    |some c=>rw[AAv (b:=a) (by rw[q];rfl),List.filter_cons_of_pos (by rw[q];rfl),ih]
  rw[this];exact List.Pairwise.sublist List.filter_sublist List.pairwise_lt_range
 ·have:=e3.length_eq;rw[List.length_range] at this;rw[←this];simp only[List.size_toArray,AAG];unfold own
  induction List.range (mask+1) with
  |nil=>rfl
  |cons a l ih=>
   cases q:owner.getD a none with
   |none=>rw[List.filterMap_cons_none (by rw[q];rfl),List.filterMap_cons_none (f:=λj=>owner.getD j none) q,ih]
   |some c=>rw[AAv (b:=(a,c)) (by rw[q];rfl),AAv (f:=λj=>owner.getD j none) q,AAI,AAI,ih]
 ·simp only[];rw[List.map_filterMap];have:(List.range (mask+1)).filterMap (λx=>Option.map (λx=>x.2) (Option.map (λx_1=>(x,x_1)) (owner.getD x none)))=own mask owner:=by
   unfold own;refine Ig λi _=>?_;cases owner.getD i none<;>rfl
  rw[this];exact e3
structure Tab(t:SetTable)(n:Nat):Prop where
 ris:Ris t.place.toList
 sz:t.place.size=n
 dm:t.dummies=#[]
 mks:(t.mask=7/\n<=4)∨(t.mask=31/\n<=18)∨(t.mask=127/\19<=n/\n<=75)
 pl:t.plain=true
theorem Tab.sm(h:Tab t n):Sm t.mask:=h.mks.elim (λz=>.inl z.1) λz=>z.elim (λz=>.inr (.inr (.inl z.1))) λz=>.inr (.inr (.inr z.1))
theorem Je(led:Bool):Tab (.fresh 0 0 led) 0:=⟨List.Pairwise.nil,rfl,rfl,.inl ⟨rfl,by omega⟩,rfl⟩
theorem Tab.fits(h:Tab t n):t.fits n=true:=by
 unfold SetTable.fits fill;rw[h.sz,h.dm];rcases h.mks with ⟨a,b⟩|⟨a,b⟩|⟨a,b⟩<;>simp[a]<;>omega
theorem YV(T:Tab t es.size)(hn:es.size+1<=75)(h:Int)(x:Value):
  ∃t1 es1,layNew t es h x=(es1,t1,false,false)/\Ris t1.place.toList/\t1.place.size=es.size+1/\t1.dummies=#[]/\t1.mask=t.mask/\t1.plain=true/\t1.led=t.led/\t1.moves=t.moves/\t1.finger=t.finger/\es1.toList.Perm (es.toList++[(h,x)]):=by
 have hsz:=T.sz;obtain⟨j,e,q⟩:=WD T.dm T.sm T.ris (by rcases T.mks with ⟨a,b⟩|⟨a,b⟩|⟨a,b⟩<;>omega) h;have hj:j∉t.place.toList:=λz=>by
  obtain⟨i,hi⟩:=SF T.ris z;rw[q] at hi;cases hi
 have hperm:=layNew_perm t es h x;have hz:(insertAt t.place (below t.place j) j).size=es.size+1:=by
  have:=(insertAt_perm t.place (below t.place j) j).length_eq;simp at this;omega
 have hd:(if has t.dummies j=true then eraseAt t.dummies (below t.dummies j) else t.dummies)=#[]:=by
  rw[T.dm];have:has (#[]:Array Nat) j=false:=by unfold has;simp
  rw[this];rfl
 have hes:(insertAt es (below t.place j) (h,x)).size=es.size+1:=by
  have:=(insertAt_perm es (below t.place j) (h,x)).length_eq;simpa using this
 have hfit:(t.put j).1.fits (es.size+1)=true:=by
  unfold SetTable.fits fill put;simp only[hd,hz];rcases T.mks with ⟨a,b⟩|⟨a,b⟩|⟨a,b⟩<;>simp[a]<;>omega
 have hl:layNew t es h x=(insertAt es (below t.place j) (h,x),(t.put j).1,false,false):=by
  unfold layNew;rw[e];show (insertAt es (below t.place j) (h,x),(t.put j).1.orStandIn (insertAt es (below t.place j) (h,x)).size,false,!(t.put j).1.fits (insertAt es (below t.place j) (h,x)).size)=_;rw[hes,hfit];unfold orStandIn;rw[hfit];rfl
 rw[hl] at hperm;refine⟨_,_,hl,VD T.ris hj,hz,hd,rfl,T.pl,rfl,rfl,rfl,?_⟩;rw[Array.toList_push] at hperm;exact hperm
theorem Sd{M:Nat}{t:SetTable}(hM:Sm M)(hw:sizeAbove wanted=M+1)(hn:es.size<=M)(hk:(M=7/\es.size<=4)∨(M=31/\es.size<=18)∨(M=127/\19<=es.size/\es.size<=75))(hp:t.plain=true):
  ∃t1 es1,relayAll t es wanted=(es1,t1,false)/\Tab t1 es1.size/\t1.led=t.led/\es1.toList.Perm es.toList:=by
 have hperm:=relayAll_perm t es wanted;obtain⟨place,order,e,r,hs,ho⟩:=Vy (mask:=M) hM (es.map (·.1)) (by simp;omega) t.finger (t.movedTo M) t.led t.plain;simp only[Array.size_map] at hs ho;have hsz:(order.filterMap (es[·]?)).size=es.size:=by
  have h1:((order.filterMap (es[·]?)).toList).Perm es.toList:=by
   rw[Array.toList_filterMap];exact(ho.filterMap _).trans (by rw[filterMap_getElem?_range])
  have:=h1.length_eq
  rwa [Array.length_toList,Array.length_toList] at this
 have hl:relayAll t es wanted=(order.filterMap (es[·]?),{ mask:=M,place,dummies:=#[],finger:=t.finger,led:=t.led,moves:=t.movedTo M,plain:=t.plain },false):=by
  unfold relayAll relaid;rw[hw,Nat.add_sub_cancel];rw[e];simp only[];have c1:coversAll order es.size=true:=by
   unfold coversAll;exact List.isPerm_iff.mpr ho
  have c2:SetTable.fits { mask:=M,place,dummies:=#[],finger:=t.finger,led:=t.led,moves:=t.movedTo M,plain:=t.plain } (order.filterMap (es[·]?)).size=true:=by
   unfold SetTable.fits fill;rw[hsz];simp[hs];omega
  rw[c1,c2];rfl
 rw[hl] at hperm;exact⟨_,_,hl,⟨r,by rw[hsz];exact hs,rfl,by rw[hsz];exact hk,hp⟩,rfl,hperm⟩
theorem Sc(hw:sizeAbove wanted=32)(hn:es.size<=18)(hp:t.plain=true):
  ∃t1 es1,relayAll t es wanted=(es1,t1,false)/\Tab t1 es1.size/\t1.led=t.led/\es1.toList.Perm es.toList:=Sd (M:=31) (.inr (.inr (.inl rfl))) hw (by omega) (.inr (.inl ⟨rfl,hn⟩)) hp
noncomputable def Bf(xs:List Int):List Int:=xs.foldl (λys x=>if x∈ys then ys else ys++[x]) []
theorem Gh(xs:List Int)(x:Int):Bf (xs++[x])=if x∈Bf xs then Bf xs else Bf xs++[x]:=by
 unfold Bf;rw[List.foldl_append];rfl
theorem PD:∀(xs ys:List Int),∃zs,xs.foldl (λys x=>if x∈ys then ys else ys++[x]) ys=ys++zs
 |[],ys=>⟨[],by simp⟩
 |x::xs,ys=>by
  rw[List.foldl_cons];obtain⟨zs,e⟩:=PD xs (if x∈ys then ys else ys++[x]);rw[e];split
  ·exact⟨zs,rfl⟩
  ·exact⟨x::zs,by simp⟩
theorem TW(xs ys:List Int):∃zs,Bf (xs++ys)=Bf xs++zs:=by
 unfold Bf;rw[List.foldl_append];exact PD _ _
theorem Qd(xs:List Int)(i:Nat):(Bf (xs.take i)).length<=(Bf xs).length:=by
 obtain⟨zs,e⟩:=TW (xs.take i) (xs.drop i);rw[List.take_append_drop] at e;rw[e,AAH];omega
theorem Ln{p:List Int->Prop}(h0:p [])(h1:∀xs x,p xs->p (xs++[x]))(xs:List Int):p xs:=by
 rw[←List.reverse_reverse xs]
 induction xs.reverse with
 |nil=>exact h0
 |cons a l ih=>rw[List.reverse_cons];exact h1 _ _ ih
theorem TV(xs:List Int)(k:Int):k∈Bf xs↔k∈xs:=by
 refine Ln (p:=λxs=>k∈Bf xs↔k∈xs) (by simp[Bf]) (λxs x ih=>?_) xs;rw[Gh];split
 ·rename_i h;simp only[AAK,AAL,←ih];exact⟨.inl,λz=>z.elim id λe=>e ▸ h⟩
 ·simp only[AAK,AAL,ih]
theorem Nl(xs:List Int):(Bf xs).Nodup:=by
 refine Ln (p:=λxs=>(Bf xs).Nodup) (by simp[Bf]) (λxs x ih=>?_) xs;rw[Gh];split
 ·exact ih
 ·rename_i h;rw[List.nodup_append];refine⟨ih,by simp,λa ha b hb=>?_⟩;simp at hb;subst hb;exact λe=>h (e ▸ ha)
open PyProof.Rows
abbrev EN(l:List (Int×Value))(ks:List Int):Prop:=IntsAre (l.map (·.2)) ks
theorem Gr:∀{vs ws:List Value} (_:vs.Perm ws) {ks:List Int},IntsAre ws ks->∃ms,IntsAre vs ms/\ms.Perm ks:=by
 intro vs ws p
 induction p with
 |nil=>intro ks h;cases h;exact⟨[],.nil,.refl _⟩
 |cons x _ ih=>
  intro ks h;cases h with
  |cons n t h=>
   obtain⟨ms,h1,h2⟩:=ih h;exact⟨n::ms,.cons n t h1,h2.cons n⟩
 |swap x y l=>
  intro ks h;cases h with
  |cons n t h=>
   cases h with
   |cons m u h=>exact⟨m::n::_,.cons m u (.cons n t h),.swap n m _⟩
 |trans _ _ ih1 ih2=>
  intro ks h;obtain⟨ms,h1,h2⟩:=ih2 h;obtain⟨ls,h3,h4⟩:=ih1 h1;exact⟨ls,h3,h4.trans h2⟩
theorem T6:∀{l:List (Int×Value)} {ks:List Int},EN l ks->∀(k:Int),(∃e∈l,Value.isInt k e.2=true)↔k∈ks
 |[],_,h,k=>by
  have h:IntsAre [] _:=h;cases h;simp
 |e::l,_,h,k=>by
  obtain⟨a,v⟩:=e;have h:IntsAre (v::l.map (·.2)) _:=h;cases h with
  |cons n t h1=>
   have ih:=T6 (l:=l) h1 k;constructor
   ·rintro⟨e,he,q⟩;rcases AAJ.mp he with rfl|he
    ·have:Value.isInt k (.int n t)=true:=q;simp[Value.isInt] at this;subst this;exact AAQ ..
    ·exact AAR _ (ih.mp ⟨e,he,q⟩)
   ·intro hk;rcases AAJ.mp hk with rfl|hk
    ·exact⟨_,AAQ ..,by simp[Value.isInt]⟩
    ·obtain⟨e,he,q⟩:=ih.mpr hk;exact⟨e,AAR _ he,q⟩
def SetI(prog:Program)(w:World)(h:Heap)(a:Addr)(ks:List Int):Prop:=
 ∃o es ep t,h.get? a=some o/\o.ExactSet/\o.data=.set es ep t/\ElemsOf (intKind prog w) es.toList/\(∃ns,EN es.toList ns/\ns.Perm ks)/\Tab t es.size/\t.led=!(w.params.followText "set-order")
theorem SetI.at(z:SetI prog w h a ks)(k:∀o,h.get? a=some o->h'.get? a=some o):SetI prog w h' a ks:=by
 obtain⟨o,es,ep,t,e,BG⟩:=z;exact⟨o,es,ep,t,k o e,BG⟩
theorem LG{l:Array (Int×Value)}(h:EN l.toList ns)(p:ns.Perm ks):l.size=ks.length:=by
 have h1:=congrArg List.length h.nums;rw[AAG,AAG,Array.length_toList] at h1;rw[h1,p.length_eq]
section
variable{prog:Program}{w:World}{A:Around}{E:Value->Shared->Prop}{s:Shared}
theorem HZ{h:Heap}{a:Addr}{o:Obj}(ho:h.get? a=some o)(hd:o.data=.set es ep t)(es':Array (Int×Value))(t':SetTable):
  (h.update a (Obj.putSet es' t')).get? a=some { o with data:=.set es' (ep+1) t' }:=by
 have:=Heap.get?_update_self (Obj.putSet es' t') ho (by rw[putSet_of es' t' hd];rfl);rw[putSet_of es' t' hd] at this;exact this
theorem SM{a:Addr}{ks:List Int}(hS:SetI prog w s.heap a ks)(room:(if n∈ks then ks else ks++[n]).length<=18)
  (q:∀b h' tk,Heap.SameBut a s.heap h'->SetI prog w h' a (if n∈ks then ks else ks++[n])->Q b { s with heap:=h',toks:=tk }) :
  wpAny (model prog w) A (setAdd a (.int n tk)) Q E s:=by
 obtain⟨o,es,ep,t,ho,hex,hd,hel,⟨ns,hen,hp⟩,T,hled⟩:=hS;have hsz:=LG hen hp;have hb:es.size<scanBound:=by rcases T.mks with ⟨_,b⟩|⟨_,b⟩|⟨_,b⟩<;>(unfold scanBound;omega)
 unfold setAdd;refine AAo (AAA ((intKind prog w).pyHash (intKind_is prog w n tk) ?_));unfold setAddHashed setAddHashedIn;refine AAo (AAA (AAi (s:={ s with toks:=s.toks+1 }) ho hd T.fits ?_));dsimp only;rw[byScan_of (knd:=intKind prog w) rfl hb hel];simp only[↓reduceIte];unfold setAddByScan;refine AAA ?_;refine AAA (wpAny_rule ?_);refine AAA (wpAny_setScan_of (knd:=intKind prog w) (s:={ s with toks:=s.toks+1 }) (intKind_is prog w n tk) ho hd T.fits hel ?_);have mem:=T6 hen n;rw[hp.mem_iff] at mem;cases hr:List.findIdx? (λe=>(intKind prog w).is n e.2) es.toList with
 |some j=>
  dsimp only;obtain⟨hj,hpj,_⟩:=List.findIdx?_eq_some_iff_getElem.mp hr;have hm:n∈ks:=mem.mp ⟨es.toList[j],List.getElem_mem hj,hpj⟩;refine AAB (AAB ?_);rw[if_pos hm] at q;exact q _ s.heap _ (Heap.SameBut.refl a s.heap) ⟨o,es,ep,t,ho,hex,hd,hel,⟨ns,hen,hp⟩,T,hled⟩
 |none=>
  dsimp only;have hm:n∉ks:=λz=>by
   obtain⟨e,he,hq⟩:=mem.mpr z;have:=List.findIdx?_eq_none_iff.mp hr e he;have hq':(intKind prog w).is n e.2=true:=hq;rw[hq'] at this;exact Bool.noConfusion this
  rw[if_neg hm,AAH,List.length_singleton] at room;rw[if_neg hm] at q;obtain⟨t1,es1,e1,r1,z1,d1,m1,p1,l1,_,_,q1⟩:=YV T (by omega) ((intKind prog w).hash n) (.int n tk);rw[e1];dsimp only;have s1:es1.size=es.size+1:=by
   have:=q1.length_eq;simpa using this
  have hel1:ElemsOf (intKind prog w) es1.toList:=(hel.push (intKind_is prog w n tk) rfl).perm q1;have hen0:EN (es.toList++[((intKind prog w).hash n,Value.int n tk)]) (ns++[n]):=by
   unfold EN;rw[AAY];exact IntsAre.append hen (.cons n tk .nil)
  obtain⟨ms,hen1,hp1⟩:=Gr (q1.map (·.2)) hen0;have hp2:ms.Perm (ks++[n]):=hp1.trans (hp.append_right [n]);refine AAA (AAB ?_);rw[p1];simp only[↓reduceIte];refine AAA ?_;rw[hashByValue_scannable 8 (x:=.int n tk) rfl];refine AAB ?_;simp only[plainKind,↓reduceIte];refine AAA (wpAny_storeSet_of (s:={ s with toks:=s.toks+1 }) ho hd ?_ (by rw[sizeLine_eq];omega));have ho1:=HZ ho hd es1 t1;have sb1:=Heap.SameBut.update s.heap a (Obj.putSet es1 t1);simp only[Bool.not_false,Bool.true_and];by_cases hf:t1.tooFull=true
  ·rw[if_pos hf];have small:es1.size=5:=by
    unfold SetTable.tooFull SetTable.fill at hf;rw[z1,d1,m1] at hf;simp at hf;rcases T.mks with ⟨a,b⟩|⟨a,b⟩|⟨a,b⟩<;>rw[a] at hf<;>omega
   obtain⟨t2,es2,e2,T2,l2,q2⟩:=Sc (t:=t1) (es:=es1) (wanted:=grown es1.size) (by rw[small];decide +kernel) (by omega) p1;rw[e2];dsimp only;refine AAA (AAB ?_);have s2:es2.size=es1.size:=by
    have:=q2.length_eq;simpa using this
   refine AAA (wpAny_storeSet_of (s:={ s with heap:=s.heap.update a (Obj.putSet es1 t1),toks:=s.toks+1 }) ho1 rfl ?_ (by rw[sizeLine_eq];omega));obtain⟨ls,hen2,hp3⟩:=Gr (q2.map (·.2)) hen1;refine AAB (AAB (q _ _ _ (sb1.trans (Heap.SameBut.update _ a _)) ?_));exact⟨_,es2,_,t2,HZ ho1 rfl es2 t2,hex,rfl,hel1.perm q2,⟨ls,hen2,hp3.trans hp2⟩,T2,by rw[l2,l1];exact hled⟩
  ·rw[if_neg hf];refine AAB (AAB (q _ _ _ sb1 ⟨_,es1,_,t1,ho1,hex,rfl,hel1,⟨ms,hen1,hp2⟩,⟨r1,by omega,d1,?_,p1⟩,by rw[l1];exact hled⟩));rw[m1];unfold SetTable.tooFull SetTable.fill at hf;rw[z1,d1,m1] at hf;simp at hf;rcases T.mks with ⟨a,b⟩|⟨a,b⟩|⟨a,b⟩
   ·rw[a] at hf;exact .inl ⟨a,by omega⟩
   ·exact .inr (.inl ⟨a,by omega⟩)
   ·exact .inr (.inr ⟨a,by omega,by omega⟩)
end
end Ht
namespace Ht
open PySem PySem.Spec PyProof.Rows Sem L2
section
variable{prog:Program}{w:World}{A:Around}{E:Value->Shared->Prop}{s:Shared}
theorem QI{I S:Addr}{ns:List Int}{P:Nat->Value->Prop}{St:Nat->Heap->Prop}(W:Walks prog w A.in1 I fp [I] ns.length P St)(hP:∀i v,P i v->∃t,v=.int (ns.getD i 0) t)
  (hSI:S≠I) (hSf:S∉fp) (room:(Bf ns).length<=18) {R:Result->Shared->Prop} :
  ∀(m i:Nat) (s:Shared),ns.length-i=m->i<=ns.length->St i s.heap->SetI prog w s.heap S (Bf (ns.take i))->
   (∀h' tk,(∀c o,c≠S->c≠I->s.heap.get? c=some o->h'.get? c=some o)->SetI prog w h' S (Bf ns)->R (.ok (.ret .none)) { s with heap:=h',toks:=tk })->
   codeAny (model prog w) A (.builtin "set.update.loop" ⟨[.ref S,.ref I],[]⟩) R s:=by
 intro m
 induction m with
 |zero=>
  intro i s hm hi hst hS q;have ei:i=ns.length:=by omega
  subst ei;refine codeAny_builtin PyProof.Rows.F.entry_set_update_loop ?_;rw[Around.under_plainId PyProof.Rows.F.plain_set_update_loop _];refine AAA (m:=pyNext (.ref I)) (W.done s _ _ hst λh' tk kp=>AAB ?_);rw[List.take_length] at hS;exact q h' tk (λc o _ c2 e=>kp c o (by simpa using c2) e) (hS.at λo e=>kp S o (by simpa using hSI) e)
 |succ m ih=>
  intro i s hm hi hst hS q;have lt:i<ns.length:=by omega
  refine codeAny_builtin PyProof.Rows.F.entry_set_update_loop ?_;rw[Around.under_plainId PyProof.Rows.F.plain_set_update_loop _];refine AAA (m:=pyNext (.ref I)) (W.item i s _ _ lt hst λv h' tk hv st kp=>?_);obtain⟨t,rfl⟩:=hP i v hv;have eg:ns.getD i 0=ns[i]:=by simp[lt]
  rw[eg];have tk1:ns.take i++[ns[i]]=ns.take (i+1):=by rw[List.take_succ,AAt lt];rfl
  have nb:(if ns[i]∈Bf (ns.take i) then Bf (ns.take i) else Bf (ns.take i)++[ns[i]])=Bf (ns.take (i+1)):=by rw[←tk1,Gh]
  have hS1:SetI prog w h' S (Bf (ns.take i)):=hS.at λo e=>kp S o (by simpa using hSI) e;refine AAA (AAo (SM (s:={ s with heap:=h',toks:=tk }) hS1 (by rw[nb];exact AAs (Qd _ _) room) λb h2 t2 sb hS2=>?_));rw[nb] at hS2;have k2:∀c o,c≠S->h'.get? c=some o->h2.get? c=some o:=λc o hc e=>(sb.2 c hc).trans e;refine AAB ⟨plainId_quiet PyProof.Rows.F.plain_set_update_loop _,ih (i+1) _ (by omega) lt (W.frame _ _ _ st λb hb o e=>k2 b o (λz=>hSf (z ▸ hb)) e) hS2 λh3 t3 kp3 hS3=>?_⟩;exact q h3 t3 (λc o c1 c2 e=>kp3 c o c1 c2 (k2 c o c1 (kp c o (by simpa using c2) e))) hS3
theorem Oo(a:Value)(h:Q (.ref s.heap.objs.size) { s with heap:=s.heap.push (Ay !(w.params.followText "set-order")) }):
  codeAny (model prog w) A (.call (.builtin "set.__new__") ⟨[.type "set",a],[]⟩) (wants Q E) s:=by
 refine codeAny_call_builtin (b:=Builtin.«set.__new__») PySem.F.plain_set_new PySem.F.entry_set_new (AAw (PySem.F.newCall_set_1 a) ?_);unfold Builtin.«set.__new__» Builtin.Frozenset.newClass;have z:=sub_set_self
 wp_walk
 refine wpAny_askSetting (AAB ?_);have e:∀{Q:Value->Shared->Prop} {E:Value->Shared->Prop} (t:SetTable),Q (.ref s.heap.objs.size) { s with heap:=s.heap.push { cls:=.type "set",data:=.set #[] 0 t } }->wpAny (model prog w) A.in1 (newObj (.type "set") (.set #[] 0 t)) Q E s:=λt z=>by
  unfold newObj
  wp_walk
  first|exact z|exact AAA (wpAny_alloc (AAB z))|trace_state
 exact e _ (AAB h)
set_option maxHeartbeats 2000000 in
theorem KM{T:String}{l:Addr}{ns:List Int}{Q:Value->Shared->Prop}{fp:Addr->List Addr}{St:Addr->Nat->Heap->Prop}{itO:Obj}
  (c1:isSubtype (.type T) (.type "set")=Pure.pure false) (c2:isSubtype (.type T) (.type "frozenset")=Pure.pure false) (c3:(Value.type T==Value.type "dict")=false)
  (tyl:∀{s':Shared},(∀o,s.heap.get? l=some o->s'.heap.get? l=some o)->s'.TypeIs (.ref l) T)
  (walk:∀{s':Shared} {A':Around} {E' Q':Value->Shared->Prop},(∀o,s.heap.get? l=some o->s'.heap.get? l=some o)->Q' (.ref s'.heap.objs.size) { s' with heap:=s'.heap.push itO }->wpAny (model prog w) A' (pyIter (.ref l)) Q' E' s')
  (W:∀I,l≠I->Walks prog w A.in1.in1.in1 I (fp I) [I] ns.length P (St I)) (hP:∀i v,P i v->∃t,v=.int (ns.getD i 0) t) (hfp:∀I,∀b∈fp I,b=I∨b=l) (hl:∃o,s.heap.get? l=some o)
  (hfr:itO.isFreed=false) (st0:∀{h:Heap} (I:Addr),h.get? I=some itO->(∀o,s.heap.get? l=some o->h.get? l=some o)->St I 0 h) (room:(Bf ns).length<=18)
  (q:∀h' tk,(∀c o,s.heap.get? c=some o->h'.get? c=some o)->SetI prog w h' s.heap.objs.size (Bf ns)->Q (.ref s.heap.objs.size) { s with heap:=h',toks:=tk }) :
  wpAny (model prog w) A (call (.type "set") [.ref l]) Q E s:=by
 refine PL PySem.F.called_set (PySem.F.typeCall_set_1 _) (Oo (.ref l) (Q:=λx s₁=>x=.ref s.heap.objs.size/\s₁={ s with heap:=s.heap.push (Ay !(w.params.followText "set-order")) }) ⟨rfl,rfl⟩) ?_;rintro x s₁ ⟨rfl,rfl⟩;generalize hled:(!(w.params.followText "set-order"))=led;have at_S:(s.heap.push (Ay led)).get? s.heap.objs.size=some (Ay led):=AAD _ rfl;have ty:Shared.TypeIs { s with heap:=s.heap.push (Ay led) } (.ref s.heap.objs.size) "set" := ⟨_,at_S,rfl⟩;have lt:l<s.heap.objs.size:=by obtain⟨o,e⟩:=hl;exact Heap.lt_size e
 have kl:∀o,s.heap.get? l=some o->(s.heap.push (Ay led)).get? l=some o:=λo e=>AAC _ e;have tyl:=tyl (s':={ s with heap:=s.heap.push (Ay led) }) kl;refine⟨ty,codeAny_call_builtin PySem.F.called_set.init.plain PySem.F.entry_set_init (check_set_init_1 ty ?_)⟩;unfold Builtin.«set.__init__» noKeywords Builtin.Frozenset.updateFrom;have walk':∀(A:Around) (E:Value->Shared->Prop) (Q:Value->Shared->Prop),Q (.ref (s.heap.push (Ay led)).objs.size) { s with heap:=(s.heap.push (Ay led)).push itO }->wpAny (model prog w) A (pyIter (.ref l)) Q E { s with heap:=s.heap.push (Ay led) }:=λA E Q z=>walk (s':={ s with heap:=s.heap.push (Ay led) }) kl z
 wp_walk using walk'
 have sz:(s.heap.push (Ay led)).objs.size=s.heap.objs.size+1:=Heap.size_push ..;have ne1:l≠(s.heap.push (Ay led)).objs.size:=by rw[sz];exact AAe (AAh lt)
 have ne2:s.heap.objs.size≠(s.heap.push (Ay led)).objs.size:=by rw[sz];exact AAe (Nat.lt_succ_self _)
 have hSf:s.heap.objs.size∉fp (s.heap.push (Ay led)).objs.size:=λz=>(hfp _ _ z).elim ne2 (Nat.ne_of_gt lt);refine QI (A:=A.in1.in1) (W _ ne1) hP ne2 hSf room ns.length 0 _ (Nat.sub_zero _) (AAk _) (st0 _ (AAD _ hfr) λo e=>AAC _ (kl o e)) ?start λh' tk kp hS=>?fin
 case start=>
  refine⟨_,#[],0,_,AAC _ at_S,⟨rfl,rfl,rfl⟩,rfl,?_,⟨[],.nil,.refl _⟩,Je led,hled.symm⟩;intro e he;cases he
 case fin=>
  have ltS:∀{c:Addr} {o:Obj},s.heap.get? c=some o->c<s.heap.objs.size:=λe=>Heap.lt_size e;exact AAB (AAB ⟨rfl,q h' tk (λc o e=>kp c o (AAe (ltS e)) (by rw[sz];exact AAe (AAh (ltS e))) (AAC _ (AAC _ e))) hS⟩)
theorem Lf:isSubtype (.type "tuple") (.type "set")=Pure.pure false:=by rw[isSubtype_type];kernel_rfl
theorem Lg:isSubtype (.type "tuple") (.type "frozenset")=Pure.pure false:=by rw[isSubtype_type];kernel_rfl
theorem NY{l:Addr}{its:List Value}{ns:List Int}{Q:Value->Shared->Prop}(hh:A.handled=none)(hl:s.heap.IsList l its.toArray)(rv:IntsAre its ns)(room:(Bf ns).length<=18)
  (q:∀h' tk,(∀c o,s.heap.get? c=some o->h'.get? c=some o)->SetI prog w h' s.heap.objs.size (Bf ns)->Q (.ref s.heap.objs.size) { s with heap:=h',toks:=tk }) :
  wpAny (model prog w) A (call (.type "set") [.ref l]) Q E s:=by
 have len:its.toArray.size=ns.length:=by have:=congrArg List.length rv.nums;rw[AAG] at this;simpa using this
 refine KM (T := "list") (l:=l) (ns:=ns) (fp:=λI=>[I,l]) (P:=λi v=>its.toArray[i]?=some v) (St:=λI i h=>h.IsListIter I l i/\h.IsList l its.toArray) (itO:={ cls:=.type "list_iterator",data:=.fields #[.ref l,.int 0 0] }) PySem.F.sub_list_set PySem.F.sub_list_frozenset (by decide +kernel) (λk=>(hl.at k).typeIs) (λk z=>wpAny_pyIter_list (hl.at k) z) (λI hI=>len ▸ Walks.list (by simp[hh]) I l hI its.toArray) (λi v e=>?_) (λI b hb=>by simpa using hb) (by obtain⟨o,e,_⟩:=hl;exact⟨o,e⟩) rfl (λI e k=>⟨⟨_,e,rfl,rfl⟩,hl.at k⟩) room q;have e':its[i]?=some v:=by simpa using e
 exact rv.int_at i v e'
theorem QG{l:Addr}{its:List Value}{ns:List Int}{Q:Value->Shared->Prop}(hh:A.handled=none)(hl:s.heap.IsTuple l its.toArray)(rv:IntsAre its ns)(room:(Bf ns).length<=18)
  (q:∀h' tk,(∀c o,s.heap.get? c=some o->h'.get? c=some o)->SetI prog w h' s.heap.objs.size (Bf ns)->Q (.ref s.heap.objs.size) { s with heap:=h',toks:=tk }) :
  wpAny (model prog w) A (call (.type "set") [.ref l]) Q E s:=by
 have len:its.toArray.size=ns.length:=by have:=congrArg List.length rv.nums;rw[AAG] at this;simpa using this
 refine KM (T := "tuple") (l:=l) (ns:=ns) (fp:=λI=>[I,l]) (P:=λi v=>its.toArray[i]?=some v) (St:=λI i h=>h.IsTupleIter I l i/\h.IsTuple l its.toArray) (itO:={ cls:=.type "tuple_iterator",data:=.fields #[.ref l,.int 0 0] }) Lf Lg (by decide +kernel) (λk=>(hl.at k).typeIs) (λk z=>wpAny_pyIter_tuple (hl.at k) z) (λI hI=>len ▸ Walks.tuple (by simp[hh]) I l hI its.toArray) (λi v e=>?_) (λI b hb=>by simpa using hb) (by obtain⟨o,e,_⟩:=hl;exact⟨o,e⟩) rfl (λI e k=>⟨⟨_,e,rfl,rfl⟩,hl.at k⟩) room q;have e':its[i]?=some v:=by simpa using e
 exact rv.int_at i v e'
end
end Ht
namespace Ht
open PySem PySem.Spec PyProof.Rows Sem L2 PySem.SetTable
theorem Fi:∀(l:List α) (i:Nat) (x:α),l[i]?=some x->(x::l.eraseIdx i).Perm l
 |[],_,_,e=>by cases e
 |a::l,0,x,e=>by
  simp at e;subst e;exact .refl _
 |a::l,i+1,x,e=>by
  have e':l[i]?=some x:=by simpa using e
  exact(List.Perm.swap a x _).trans ((Fi l i x e').cons a)
theorem O6(f:Nat->Nat):∀(BO k:Nat) (left:List α) (out:Array α),left.length<=BO->(pickOrder.go f BO k left out).toList.Perm (out.toList++left)
 |0,k,left,out,h=>by
  have:left=[]:=List.length_eq_zero_iff.mp (by omega);subst this;unfold pickOrder.go;rw[AAa]
 |BO+1,k,left,out,h=>by
  unfold pickOrder.go;cases e:left[f k % left.length]? with
  |none=>
   simp only[];have:left=[]:=by
    cases left with
    |nil=>rfl
    |cons a l=>
     exfalso;have:=List.getElem?_eq_none_iff.mp e;have:=Nat.mod_lt (f k) (show 0<(a::l).length by simp);omega
   rw[this,AAa]
  |some x=>
   simp only[];have hp:=Fi left _ x e;have hl:=hp.length_eq;rw[AAI] at hl;refine(O6 f BO (k+1) _ (out.push x) (by omega)).trans ?_;rw[Array.toList_push,List.append_assoc];exact hp.append_left _
theorem QV(f:Nat->Nat)(xs:Array α):(pickOrder f xs).toList.Perm xs.toList:=by
 have:=O6 f xs.size 0 xs.toList #[] (by simp);simpa[pickOrder] using this
noncomputable def wv(w:World)(S:Addr)(ep:Nat)(es:Array (Int×Value)):Array (Int×Value):=if w.params.followText "set-order" = true then pickOrder (w.params.setOrder S ep) es else es
theorem Kc(w:World)(S:Addr)(ep:Nat)(es:Array (Int×Value)):(wv w S ep es).toList.Perm es.toList:=by
 unfold wv;split
 ·exact QV _ _
 ·exact .refl _
theorem Fq(w:World)(S:Addr)(ep:Nat)(es:Array (Int×Value)):(wv w S ep es).size=es.size:=by
 have:=(Kc w S ep es).length_eq;simpa using this
structure Wt(w:World)(t:SetTable)(n:Nat):Prop where
 fits:t.fits n=true
 nd:w.params.followText "set-order" = false->Ris t.place.toList/\(!t.plain&&decide (n > 1))=false
theorem Wt.sz(T:Wt w t n):t.place.size=n:=by
 have:=T.fits;unfold SetTable.fits at this;simp only[Bool.and_eq_true,beq_iff_eq] at this;exact this.1
theorem Tab.wt(T:Tab t n):Wt w t n:=⟨T.fits,λ_=>⟨T.ris,by rw[T.pl];rfl⟩⟩
section
variable{prog:Program}{w:World}{A:Around}{E:Value->Shared->Prop}{s:Shared}
theorem Lo(ho:s.heap.get? S=some o)(hd:o.data=.set es ep t)(T:Wt w t es.size)(hled:t.led=!(w.params.followText "set-order"))
  (hsl:w.params.followText "set-order" = false->below t.place sl=i)
  (h1:∀e sl',(wv w S ep es)[i]?=some e->(w.params.followText "set-order" = false->below t.place sl'=i+1)->Q (some (e.2,sl')) s)
  (h2:(wv w S ep es)[i]?=none->Q none s):wpAny (model prog w) A (setNext S sl i ep) Q E s:=by
 unfold setNext;refine AAA (AAi ho hd T.fits ?_);dsimp only;unfold setsByText;refine AAA (AAA (wpAny_askSetting (AAB ?_)));dsimp only[model];by_cases hb:w.params.followText "set-order" = true
 ·rw[if_pos hb];have e0:(ep != ep)=false:=by simp
  rw[e0,if_neg AAg];unfold setWalk setsByText;refine AAA (AAA (AAi ho hd T.fits ?_));dsimp only;refine AAA (AAA (wpAny_askSetting (AAB ?_)));dsimp only[model];rw[if_pos hb];refine AAA (wpAny_askSetting (AAB (AAB ?_)));dsimp only;have ew:wv w S ep es=pickOrder (w.params.setOrder S ep) es:=by unfold wv;rw[if_pos hb]
  rw[ew] at h1 h2;cases q:(pickOrder (w.params.setOrder S ep) es)[i]? with
  |none=>exact h2 q
  |some e=>exact h1 e sl q λz=>by rw[hb] at z;cases z
 ·have hb':w.params.followText "set-order" = false:=by simpa using hb
  rw[if_neg hb];have hl:t.led=true:=by rw[hled,hb'];rfl
  have ew:wv w S ep es=es:=by unfold wv;rw[if_neg hb]
  rw[ew] at h1 h2;have hs:=hsl hb';split
  ·rename_i z;have z':(!t.plain&&decide (es.size > 1))=true:=z;rw[(T.nd hb').2] at z';cases z'
  ·refine AAA ?_;show wpAny _ _ (if (!t.led&&!es.isEmpty)=true then PySem.unsupported "set:maker-not-led" else Pure.pure ()) _ _ _;rw[hl];rw[if_neg (by simp)];refine AAB ?_;refine AAB ?_;rw[hs];have hsz:=T.sz;by_cases hi:i<es.size
   ·have e1:es[i]?=some es[i]:=by simp[hi]
    have e2:t.place[i]?=some (t.place[i]'(by omega)):=by simp[hsz,hi]
    rw[e1,e2];exact h1 es[i] _ e1 λ_=>OH (T.nd hb').1 (by omega)
   ·have e1:es[i]?=none:=by simp;omega
    rw[e1];exact h2 e1
end
theorem si_next:Slot "set_iterator" "__next__" "set_iterator.__next__" :=
 Slot.of (owner := "set_iterator") (n := "__next__") (by rw[typeLookup_type,builtinLookup_eq_fast];kernel_rfl) (by decide +kernel) (by decide +kernel) (by decide +kernel) (.inl (by decide +kernel)) (by rw[isSubtype_type];kernel_rfl)
theorem HV:Slot "set_iterator" "__iter__" "set_iterator.__iter__" :=
 Slot.of (owner := "set_iterator") (n := "__iter__") (by rw[typeLookup_type,builtinLookup_eq_fast];kernel_rfl) (by decide +kernel) (by decide +kernel) (by decide +kernel) (.inl (by decide +kernel)) (by rw[isSubtype_type];kernel_rfl)
theorem GM:entryFor table "set_iterator.__next__" = some Builtin.«set_iterator.__next__»:=entryFor_of_tree (by kernel_rfl)
theorem Mm:entryFor table "set_iterator.__iter__" = some Builtin.«dict_keyiterator.__iter__»:=entryFor_alias (id' := "dict_keyiterator.__iter__") (by kernel_rfl) rfl (by decide +kernel) (by kernel_rfl)
theorem Mn:entryFor table "set.__iter__" = some Builtin.«frozenset.__iter__»:=entryFor_alias (id' := "frozenset.__iter__") (by kernel_rfl) rfl (by decide +kernel) (by kernel_rfl)
theorem GQ(a:Value):argsOk "set_iterator.__next__" ⟨[a],[]⟩:=by unfold argsOk;kernel_rfl
theorem NB(a:Value):argsOk "set_iterator.__iter__" ⟨[a],[]⟩:=by unfold argsOk;kernel_rfl
noncomputable def itO(S:Addr)(sl i n ep:Nat):Obj:={ cls:=.type "set_iterator",data:=.fields #[.int sl 0,.int i 0,.ref S,.int n 0,.int ep 0] }
section
variable{prog:Program}{w:World}{A:Around}{E:Value->Shared->Prop}{s:Shared}
theorem Fd(hh:A.handled=none)(h:∀a h',(∀b o,s.heap.get? b=some o->h'.get? b=some o)->Shared.TypeIs { s with heap:=h' } (.ref a) "StopIteration" -> E (.ref a) { s with heap:=h' }):
  wpAny (model prog w) A (newExc (.type "StopIteration") [] >>= λe=>(raiseNew e:Sem α)) Q E s:=by
 unfold newExc newTuple;refine AAA (AAA (AAq ?_ (by size_fits)));refine AAA (m:=firstArgMember _ _) (AAw (a:=Value.none) (by kernel_rfl) ?_);refine AAq ?_ (by size_fits);unfold raiseNew;refine AAA (wpAny_handled ?_);rw[hh];refine AAA (AAB (wpAny_throw (h _ _ (λb o e=>AAC _ (AAC _ e)) ⟨_,AAD _ rfl,rfl⟩)))
theorem V6(hne:S≠I)(hI:s.heap.get? I=some (itO S sl i es.size ep))(ho:s.heap.get? S=some o)(hd:o.data=.set es ep t)(T:Wt w t es.size)(hled:t.led=!(w.params.followText "set-order"))
  (hsl:w.params.followText "set-order" = false->below t.place sl=i) (hx:(wv w S ep es)[i]?=some x)
  (q:∀h' sl',h'.get? I=some (itO S sl' (i+1) es.size ep)->(w.params.followText "set-order" = false->below t.place sl'=i+1)->Heap.SameBut I s.heap h'->Q (some x.2) { s with heap:=h' }) :
  wpAny (model prog w) A (pyNext (.ref I)) Q E s:=by
 have hT:s.TypeIs (.ref I) "set_iterator" := ⟨_,hI,rfl⟩;unfold pyNext;refine AAA (AAz (wpAny_callSpecial?_slot (name:=Str.ofString "__next__") hT si_next (AAd si_next hT GM ?_ (GQ _))));unfold Builtin.«set_iterator.__next__»;refine AAA (AAw (a:=(Value.ref I,[])) rfl ?_);refine AAA (wpAny_fieldsOf hI rfl ?_);dsimp only;unfold setEntries;refine AAA (AAA (AAi ho hd T.fits (AAB ?_)));dsimp only;have e0:((es.size:Int) != (es.size:Int))=false:=by simp
 rw[e0,if_neg AAg];simp only[Int.toNat_natCast];refine AAA (Lo ho hd T hled hsl (λe sl' h1 h2=>?_) λz=>by rw[hx] at z;cases z);rw[hx] at h1;cases h1;dsimp only;refine AAA (AAp hI (by simp) λh1 g1 s1=>?_);refine AAA (AAp g1 (by simp) λh2' g2 s2=>?_);refine AAB ⟨_,rfl,AAB (q h2' sl' ?_ h2 (s1.trans s2))⟩;rw[g2];simp[itO,rawInt]
theorem Yc(hh:A.handled=none)(hI:s.heap.get? I=some (itO S sl i es.size ep))(ho:s.heap.get? S=some o)(hd:o.data=.set es ep t)(T:Wt w t es.size)(hled:t.led=!(w.params.followText "set-order"))
  (hsl:w.params.followText "set-order" = false->below t.place sl=i) (hx:(wv w S ep es)[i]?=none)
  (q:∀h',(∀b o,b≠I->s.heap.get? b=some o->h'.get? b=some o)->Q none { s with heap:=h' }) :
  wpAny (model prog w) A (pyNext (.ref I)) Q E s:=by
 have hT:s.TypeIs (.ref I) "set_iterator" := ⟨_,hI,rfl⟩;unfold pyNext;refine AAA (AAz (wpAny_callSpecial?_slot (name:=Str.ofString "__next__") hT si_next (AAd si_next hT GM ?_ (GQ _))));unfold Builtin.«set_iterator.__next__»;refine AAA (AAw (a:=(Value.ref I,[])) rfl ?_);refine AAA (wpAny_fieldsOf hI rfl ?_);dsimp only;unfold setEntries;refine AAA (AAA (AAi ho hd T.fits (AAB ?_)));dsimp only;have e0:((es.size:Int) != (es.size:Int))=false:=by simp
 rw[e0,if_neg AAg];simp only[Int.toNat_natCast];refine AAA (Lo ho hd T hled hsl (λe sl' h1 h2=>by rw[hx] at h1;cases h1) λ_=>?_);dsimp only;refine AAA (AAp hI (by simp) λh1 g1 s1=>?_);refine Fd (A:=A.in1) (s:={ s with heap:=h1 }) hh λa h' k ty=>?_;refine AAA (AA0 (T := "StopIteration") (b:=true) ty isSubtype_stop ?_);exact AAB (q h' λb o hb e=>k b o (s1.extBut b o hb e))
theorem V5(hI:s.heap.get? I=some (itO S sl i n ep))(h:Q (.ref I) s):wpAny (model prog w) A (pyIter (.ref I)) Q E s:=by
 have hT:s.TypeIs (.ref I) "set_iterator" := ⟨_,hI,rfl⟩;refine wpAny_pyIter_slot hT HV (AAd HV hT Mm ?_ (NB _));exact AAB ⟨_,rfl, "set_iterator",_,hT,si_next.lookup,h⟩
theorem Yb(ho:s.heap.get? S=some o)(hex:o.ExactSet)(hd:o.data=.set es ep t)(T:Wt w t es.size)
  (h:Q (.ref s.heap.objs.size) { s with heap:=s.heap.push (itO S 0 0 es.size ep) }):wpAny (model prog w) A (pyIter (.ref S)) Q E s:=by
 have hT:s.TypeIs (.ref S) "set" := ⟨_,ho,hex.1⟩;refine wpAny_pyIter_slot hT PySem.F.slot_set_iter (AAd PySem.F.slot_set_iter hT Mn ?_ (PySem.F.args_set_iter_1 _));unfold Builtin.«frozenset.__iter__» Builtin.Frozenset.slot0 Builtin.Frozenset.sizeOf setEntries setDrawn setsByText;refine AAA (AAA (AAw (a:=(Value.ref S,[])) rfl (AAB ?_)));refine AAA (AAA (AAA (AAi ho hd T.fits (AAB (AAB ?_)))));refine AAA (AAA (AAi ho hd T.fits ?_));dsimp only;refine AAA (AAA (wpAny_askSetting (AAB (AAB ?_))));dsimp only;have e0:(!(w.params.followText "set-order")&&(!t.plain&&decide (es.size > 1)))=false:=by
  cases b:w.params.followText "set-order" with
  |true=>rfl
  |false=>rw[(T.nd b).2];rfl
 split
 ·rename_i z;have z':=e0.symm.trans z;cases z'
 ·refine AAA (AAB ?_);refine AAA (wpAny_setEpoch_of ho hd T.fits ?_);unfold newFields;exact AAA (AAq (AAB ⟨_,rfl, "set_iterator",_,⟨_,AAD _ rfl,rfl⟩,si_next.lookup,h⟩))
end
section
variable{prog:Program}{w:World}{A:Around}{E:Value->Shared->Prop}{s:Shared}
theorem Xj:splitId "set.__len__" = some ("set", "__len__"):=by decide +kernel
theorem Lp(hT:s.TypeIs (.ref S) "set")(h:Q false s):wpAny (model prog w) A (Builtin.List.listLengthHint (.ref S)) Q E s:=by
 obtain⟨id,hid⟩:∃id,id = "set.__len__" := ⟨_,rfl⟩;have l:=PySem.F.slot_set_len.lookup;have z:=sub_set_self;have sp:=Xj;rw[←hid] at l sp;unfold Builtin.List.listLengthHint
 wp_walk
 rw[sp]
 wp_walk
 split
 ·wp_walk
  exact h
 ·rename_i no;exact absurd (by rw[hid];decide +kernel) no
theorem P6(hh:A.handled=none)(hne:S≠I)(hd:o.data=.set es ep t)(T:Wt w t es.size)(hled:t.led=!(w.params.followText "set-order")):
  Walks prog w A I [I,S] [I] es.size (λi v=>∃e,(wv w S ep es)[i]?=some e/\v=e.2)
   (λi h=>(∃sl:Nat,h.get? I=some (itO S sl i es.size ep)/\(w.params.followText "set-order" = false->below t.place sl=i))/\h.get? S=some o) where
 sub:=λb hb=>by simp at hb;simp[hb]
 frame:=λi h h' st k=>by
  obtain⟨⟨sl,h1,h2⟩,h3⟩:=st;exact⟨⟨sl,k I (by simp) _ h1,h2⟩,k S (by simp) _ h3⟩
 item:=λi s Q E hi st q=>by
  obtain⟨⟨sl,h1,h2⟩,h3⟩:=st;obtain⟨x,hx⟩:∃x,(wv w S ep es)[i]?=some x:=⟨(wv w S ep es)[i]'(by rw[Fq];exact hi),by simp[Fq,hi]⟩;refine V6 hne h1 h3 hd T hled h2 hx λh' sl' g1 g2 sb=>?_;exact q x.2 h' s.toks ⟨x,hx,rfl⟩ ⟨⟨sl',g1,g2⟩,(sb.2 S hne).trans h3⟩ λb o hb e=>(sb.2 b (by simpa using hb)).trans e
 done:=λs Q E st q=>by
  obtain⟨⟨sl,h1,h2⟩,h3⟩:=st;refine Yc hh h1 h3 hd T hled h2 (by simp[Fq]) λh' k=>?_;exact q h' s.toks λb o hb e=>k b o (by simpa using hb) e
 self:=λi s Q E st h=>by
  obtain⟨⟨sl,h1,h2⟩,h3⟩:=st;exact V5 h1 h
theorem Om(hex:o.ExactSet)(hd:o.data=.set es ep t)(T:Wt w t es.size)(hled:t.led=!(w.params.followText "set-order")):
  PySem.W.KdlSrc prog w "set" S S es.size (λi v=>∃e,(wv w S ep es)[i]?=some e/\v=e.2) (λh=>h.get? S=some o) where
 type:=λs h=>⟨_,h,hex.1⟩
 there:=λh e=>⟨Heap.lt_size e,Heap.lt_size e⟩
 keep:=λh h' e k=>k S (.inl rfl) _ e
 notList:=by decide
 notTuple:=by decide
 hint:=λA E s Q e h=>Lp ⟨_,e,hex.1⟩ h
 iter:=λA s hh e=>⟨itO S 0 0 es.size ep,_,λE Q h=>Yb e hex hd T h,P6 hh (AAe (Heap.lt_size e)) hd T hled,⟨0,AAD _ rfl,λb=>OG (T.nd b).1⟩,AAC _ e⟩
theorem Ll(hh:A.handled=none)(h64:ks.length<64)(hS:SetI prog w s.heap S ks)
  (q:∀(h1 h':Heap) tk c (out:Array Value) ms,(∀b o,s.heap.get? b=some o->h1.get? b=some o)->(∀b o,h1.get? b=some o->h'.get? b=some o)->h'.get? h1.objs.size=some (seqObj "list" out c)->IntsAre out.toList ms->ms.Perm ks->ms.Pairwise (·<=·)->Q (.ref h1.objs.size) { s with heap:=h',toks:=tk }) :
  wpAny (model prog w) A (call (.builtin "sorted") [.ref S]) Q E s:=by
 obtain⟨o,es,ep,t,ho,hex,hd,hel,⟨ns,hen,hp⟩,T,hled⟩:=hS;have small:es.size<64:=by rw[LG hen hp];exact h64
 refine Calls.call_function_entry kind_sorted plain_sorted entry_sorted (args_sorted1 _) ?_;unfold Builtin.«sorted»;refine AAA (AAw (a:=()) rfl ?_);refine AAA (PySem.W.kdu_collect (A:=A.in1) (Om (S:=S) hex hd T.wt hled) hh ho (by rw[sizeLine_eq];omega) λh1 t1 acc k1 it=>?_);have hacc:acc.toList=(wv w S ep es).toList.map (·.2):=by
  refine List.ext_getElem? λi=>?_;by_cases hi:i<acc.size
  ·obtain⟨e,h1,h2⟩:=it.2 i acc[i] (by simp[hi]);have:acc.toList[i]?=some acc[i]:=by simp[hi]
   rw[this,h2,AAW,Array.getElem?_toList,h1];rfl
  ·have h1:=it.1;have h2:=Fq w S ep es;rw[List.getElem?_eq_none (by simp;omega),List.getElem?_eq_none (by simp;omega)]
 obtain⟨ls,hls,hpl⟩:=Gr ((Kc w S ep es).map (·.2)) hen;rw[←hacc] at hls;have hlen:acc.toList.length=es.size:=by rw[Array.length_toList];exact it.1
 refine AAA (wpAny_newList ?_ (by rw[sizeLine_eq];omega));have hL:(h1.push (seqObj "list" acc.toList.toArray 0)).get? h1.objs.size=some (seqObj "list" acc.toList.toArray 0):=AAD _ rfl;have kL:∀b o,h1.get? b=some o->(h1.push (seqObj "list" acc.toList.toArray 0)).get? b=some o:=λb o e=>AAC _ e;refine AAA (AAo (AAd slot_list_sort ⟨_,hL,rfl⟩ entry_list_sort (list_sort_tree hL hls (by omega) λout ms a1 a2 a3=>⟨_,rfl,?_⟩) (args_list_sort _)));obtain⟨c,hc⟩:=sortedHeap_at (out:=out) hL;exact AAB ⟨_,rfl,q h1 _ _ c out ms k1 (λb o e=>by rw[sortedHeap_old (AAe (Heap.lt_size e)) (Heap.lt_size (kL b o e))];exact kL b o e) hc a1 ((a2.trans hpl).trans hp) a3⟩
end
end Ht
namespace Ht
noncomputable def MZ(x:Int):List Int->List Int
 |[]=>[x]
 |y::ys=>if x<y then x::y::ys else if x=y then y::ys else y::MZ x ys
noncomputable def srt(xs:List Int):List Int:=xs.foldr MZ []
theorem Ic(x k:Int):∀ys:List Int,k∈MZ x ys↔k=x∨k∈ys
 |[]=>by simp[MZ]
 |y::ys=>by
  unfold MZ;split
  ·simp
  ·split
   ·rename_i e;subst e;simp
   ·rw[AAJ,Ic x k ys,AAJ];constructor<;>(intro z;rcases z with z|z|z<;>simp[z])
theorem J8(x:Int):∀{ys:List Int},ys.Pairwise (· < ·)->(MZ x ys).Pairwise (· < ·)
 |[],_=>by simp[MZ]
 |y::ys,h=>by
  obtain⟨h1,h2⟩:=AA2.mp h;unfold MZ;split
  ·rename_i hx;exact AA2.mpr ⟨λz hz=>(AAJ.mp hz).elim (λe=>e ▸ hx) λm=>Int.lt_trans hx (h1 z m),h⟩
  ·split
   ·exact h
   ·refine AA2.mpr ⟨λz hz=>?_,J8 x h2⟩;rcases(Ic x z ys).mp hz with rfl|m
    ·omega
    ·exact h1 z m
theorem Uz(xs:List Int)(k:Int):k∈srt xs↔k∈xs:=by
 unfold srt
 induction xs with
 |nil=>simp
 |cons x xs ih=>rw[List.foldr_cons,Ic,ih,AAJ]
theorem SD(xs:List Int):(srt xs).Pairwise (· < ·):=by
 unfold srt
 induction xs with
 |nil=>exact .nil
 |cons x xs ih=>exact J8 x ih
theorem O1:∀{xs ys:List Int},xs.Pairwise (· < ·)->ys.Pairwise (· < ·)->(∀k,k∈xs↔k∈ys)->xs=ys
 |[],[],_,_,_=>rfl
 |[],y::ys,_,_,h=>by have:=(h y).mpr (AAQ ..);cases this
 |x::xs,[],_,_,h=>by have:=(h x).mp (AAQ ..);cases this
 |x::xs,y::ys,a,b,h=>by
  obtain⟨a1,a2⟩:=AA2.mp a;obtain⟨b1,b2⟩:=AA2.mp b;have e:x=y:=by
   rcases AAJ.mp ((h x).mp (AAQ ..)) with z|z
   ·exact z
   ·rcases AAJ.mp ((h y).mpr (AAQ ..)) with z2|z2
    ·exact z2.symm
    ·have:=a1 y z2;have:=b1 x z;omega
  subst e;rw[O1 a2 b2 λk=>?_];constructor
  ·intro hk;rcases AAJ.mp ((h k).mp (AAR _ hk)) with z|z
   ·have:=a1 k hk;omega
   ·exact z
  ·intro hk;rcases AAJ.mp ((h k).mpr (AAR _ hk)) with z|z
   ·have:=b1 k hk;omega
   ·exact z
theorem Xi(p:ms.Perm (Bf ns))(h:ms.Pairwise (·<=·)):ms=srt ns:=by
 have nd:ms.Nodup:=p.nodup_iff.mpr (Nl ns);have lt:ms.Pairwise (· < ·):=(List.pairwise_and_iff.mpr ⟨h,nd⟩).imp λz=>by
  have:=z.1;have:=z.2;omega
 exact O1 lt (SD ns) λk=>by rw[p.mem_iff,TV,Uz]
end Ht
namespace L2
open PySem PySem.Spec PyProof.Rows Sem Ht
noncomputable def U7(P:Program)(w:World)(p:Addr)(ks:List Int):HO:=.ext λh=>SetI P w h p ks
section
variable{X:Cx}
theorem Q5(hc:X.calm=true):Bh X (.type "set") (λxs H Q=>∃a ns,xs=[.ref a]/\(SqL X.kw H a (ns.map V.int)∨SqT X.kw H a (ns.map V.int))/\(Bf ns).length<=18/\∀p,H p=none->Q (.ref p) (upd H p (U7 X.prog X.w p (Bf ns)))):=by
 intro pins s σ H xs us Q I r h;obtain⟨a,ns,rfl,ha,room,q⟩:=h;obtain⟨u,rfl,ru⟩:=Vals.one r;cases ru;have fin:∀h' tk,(∀c o,s.heap.get? c=some o->h'.get? c=some o)->SetI X.prog X.w h' s.heap.objs.size (Bf ns)->EP X pins σ Q (.ref s.heap.objs.size) { s with heap:=h',toks:=tk }:=λh' tk kp hS=>by
  refine⟨.ref s.heap.objs.size,_,I.laid (o:=U7 X.prog X.w s.heap.objs.size (Bf ns)) kp (AAF _) ?_,rfl,q _ (I.hok.fresh (AAF _))⟩;obtain⟨o,es,ep,t,e,BG⟩:=id hS;exact⟨hS,⟨o,e⟩,λh1 h2 z k=>z.at k⟩
 rcases ha with ha|ha
 ·obtain⟨its,rv,pl,hz⟩:=I.list ha;exact NY (I.ok.hd hc) pl.isList (Ia rv) room fin
 ·obtain⟨its,rv,pl,hz⟩:=I.tuple ha;exact QG (I.ok.hd hc) pl (Ia rv) room fin
theorem OB(hc:X.calm=true):Bh X (.builtin "sorted") (λxs H Q=>∃p ns,xs=[.ref p]/\H p=some (U7 X.prog X.w p (Bf ns))/\(Bf ns).length<64/\∀l,H l=none->Q (.ref l) (upd H l (.lst ((srt ns).map V.int)))):=by
 intro pins s σ H xs us Q I r h;obtain⟨p,ns,rfl,hp,h64,q⟩:=h;obtain⟨u,rfl,ru⟩:=Vals.one r;cases ru;obtain⟨hS,_⟩:=I.hok p _ hp;refine Ll (I.ok.hd hc) h64 hS λh1 h' tk c out ms k1 k2 e1 im pm sm=>?_;have em:=Xi pm sm;subst em;have I1:=I.kept (t':=tk) k1;have rv:=Ey im;refine⟨.ref h1.objs.size,_,I1.laid (t':=tk) (o:=.lst ((srt ns).map V.int)) k2 (AAF _) ⟨?_,out.toList,c,rv,e1⟩,rfl,q _ (I1.hok.fresh (AAF _))⟩;obtain⟨o,es,ep,t,_,_,_,_,⟨ns',hen,hp'⟩,T,_⟩:=hS;have hsz:=LG hen (hp'.trans pm.symm);rw[AAG,sizeLine_eq];rcases T.mks with ⟨_,b⟩|⟨_,b⟩|⟨_,b⟩<;>omega
end
end L2
namespace Mi
open PySem L2 Ht
noncomputable def Lj(d:D):M D:=bnd (Co d) λds=>λμ=>match J7 ds with
 |some ns=>if (Bf ns).length<=18 then some (.lst ((srt ns).map D.int),μ) else none
 |none=>none
theorem IX:∀ns:List Int,IsL K ι k H (ns.map D.int) (ns.map V.int)
 |[]=>IsL.nil
 |n::r=>by
  rw[AAX,AAX];unfold IsL;exact⟨_,_,rfl,ofI _,IX r⟩
section
variable{X:Cx}{e:Expr}{pos p p2 pos2:Pos}
theorem Na(yl:X.mg "sorted" = none)(ys:X.mg "set" = none)(he:RE X e m)(hc:X.calm=true:=by rfl)(hgl:Gl X "sorted" := by rfl)(hgs:Gl X "set" := by rfl)(hst:En e=false:=by rfl):
  RE X (.Call (.Name "sorted" p) [.Call (.Name "set" p2) [e] [] pos2] [] pos) (mUn Lj m):=by
 have hs:PE X (.Call (.Name "set" p2) [e] [] pos2) _:=DX (Q5 hc) hgs ys Mi.M5 (Du he.pe Fe (As hst)) (by decide) (by decide) (As hst) rfl;refine RE.wk (IJ (OB hc) hgl yl PyProof.Rows.boot_sorted (Du hs Fe (As rfl)) (by decide) (by decide) (As rfl) rfl) λσ H Q h=>?_;obtain⟨ι,μ,τ,d,μ',R,S,ev,q⟩:=h;obtain⟨x,μ1,e1,e2⟩:=AL ev;obtain⟨ds,μ2,e3,e4⟩:=AL e2;refine⟨ι,μ,τ,x,μ1,R,S,e1,λι1 H1 E1 R1 v1 i1=>?_⟩;obtain⟨hm,a,vs,rfl,h1,h2⟩:=CV R1 i1 e3;subst hm;cases hx:J7 ds with
 |none=>rw[hx] at e4;cases e4
 |some ns=>
  rw[hx] at e4;have e5:(if (Bf ns).length<=18 then some (D.lst ((srt ns).map D.int),μ2) else none)=some (d,μ'):=e4;split at e5
  ·rename_i room;cases e5;have ev:=MW h2 hx;subst ev;refine⟨a,ns,rfl,h1,room,λp hp=>?_⟩;obtain⟨E2,R2⟩:=R1.laid (U7 X.prog X.w p (Bf ns)) hp;exact⟨p,ns,rfl,BJ,by omega,λl hl=>PQ R2 (IX _) (λι' H' E' R'=>q ι' H' ((E1.trans E2).trans E') R') l hl⟩
  ·cases e5
end
end Mi
namespace L2
open PySem PySem.Spec PyProof.Rows Sem Ht
section
variable{prog:Program}{w:World}{A:Around}{E:Value->Shared->Prop}{s:Shared}
theorem SI{n:Nat}:Builtin.Range.rangeSize 0 n 1=(n:Int):=by rw[rangeSize_one];split<;>omega
theorem QE{n:Nat}(h:n<=1000):Builtin.Range.small 0 n 1=true:=small_one (by omega) (by omega) (by omega) (by omega)
theorem Mx{r:Addr}{n:Nat}(hh:A.handled=none)(hr:IsRange s.heap r 0 n 1 t u v)(hn:n<=1000)
  (q:∀h' tk (acc:List Value),(∀b o,s.heap.get? b=some o->h'.get? b=some o)->IntsAre acc ((List.range n).map Int.ofNat)->Q acc { s with heap:=h',toks:=tk }) :
  wpAny (model prog w) A (collect (.ref r)) Q E s:=by
 unfold collect;refine AAA (wpAny_runValue (codeAny_builtin entry_proto_collect' ?_));rw[Around.under_plainId PySem.F.plain_proto_collect _];unfold Builtin.«proto.collect»;refine AAA (wpAny_newList ?_);refine AAB ⟨plainId_quiet PySem.F.plain_list_iadd _,codeAny_builtin entry_list_iadd' ?_⟩;rw[Around.under_plainId PySem.F.plain_list_iadd _];have got:∀(acc:Array Value) (c:Nat) (h':Heap) (tk:Nat),(∀b o,s.heap.get? b=some o->h'.get? b=some o)->h'.get? s.heap.objs.size=some { cls:=.type "list",dict:=none,data:=.seq acc c,slots:=#[] }->ItemsOf (λi v=>∃t,v=.int (0+(i:Int) * 1) t) acc n->
   wpAny (model prog w) A (load s.heap.objs.size >>= λo=>match o.data with | .seq xs _=>Pure.pure xs.toList|_=>PySem.unsupported "internal:collect") Q E { s with heap:=h',toks:=tk }:=λacc c h' tk k e it=>by
  refine AAA (wpAny_load e (AAB (q h' tk acc.toList k ?_)));have im:=intsAre_map acc.toList λv hv=>by
   obtain⟨i,hi,rfl⟩:=List.getElem_of_mem hv;obtain⟨t,e⟩:=it.2 i _ (Array.getElem?_eq_getElem (by simpa using hi));exact⟨_,t,by simpa using e⟩
  have en:acc.toList.map numOf=(List.range n).map Int.ofNat:=by
   refine List.ext_getElem? λi=>?_;rw[AAW,AAW];by_cases hi:i<n
   ·have hi':i<acc.size:=by rw[it.1];exact hi
    obtain⟨t,e⟩:=it.2 i _ (Array.getElem?_eq_getElem hi');rw[Array.getElem?_toList,Array.getElem?_eq_getElem hi',e,List.getElem?_range hi];simp[numOf]
   ·rw[List.getElem?_eq_none (by rw[Array.length_toList,it.1];omega),List.getElem?_eq_none (by simp;omega)];rfl
  rwa [en] at im
 have key:=wpAny_extend_range (prog:=prog) (w:=w) (A:=A) (s:={ s with heap:=s.heap.push { cls:=.type "list",data:=.seq ([]:List Value).toArray } })
  (R:=λ(z:Result) (s':Shared)=>∃(h':Heap) (tk:Nat) (acc:Array Value) (c:Nat),z=.ok (.ret (.ref s.heap.objs.size))/\s'={ s with heap:=h',toks:=tk } /\
   (∀b o,s.heap.get? b=some o->h'.get? b=some o)/\h'.get? s.heap.objs.size=some { cls:=.type "list",dict:=none,data:=.seq acc c,slots:=#[] }/\ItemsOf (λi v=>∃t,v=.int (0+(i:Int) * 1) t) acc n)
  (n:=n) hh (AAC _ hr) (QE hn) SI (by omega) s.heap.objs.size (.ref s.heap.objs.size) 0 (AAD _ rfl)
  (λh' tk acc c k e it=>⟨h',tk,acc,c,rfl,rfl,λb o z=>k b o (AAe (Heap.lt_size z)) (AAC _ z),e,it⟩)
 refine AAj key (λfin s' z=>?_) λe s' z=>by obtain⟨_,_,_,_,y,_⟩:=z;cases y
 cases fin with
 |done f=>
  obtain⟨h',tk,acc,c,y,rfl,k,e,it⟩:=z;cases y;exact got acc c h' tk k e it
 |again c=>
  refine⟨z.1,codeAny_mono z.2 λf s2 y=>?_⟩;obtain⟨h',tk,acc,c,rfl,rfl,k,e,it⟩:=y;exact got acc c h' tk k e it
end
section
variable{X:Cx}
theorem Q6:Bh X (.type "range") (λxs H Q=>∃n:Nat,xs=[.int n]/\∀p,H p=none->Q (.ref p) (upd H p (.rng 0 n))):=by
 intro pins s σ H xs us Q I r h;obtain⟨n,rfl,q⟩:=h;obtain⟨u,rfl,t,rfl⟩:=Vals.one r;refine call_range_1 ⟨.ref s.heap.objs.size,_,I.laid (o:=.rng 0 n) (λb o e=>AAC _ e) (AAF _) ⟨_,_,_,AAD _ rfl⟩,rfl,q _ (I.hok.fresh (AAF _))⟩
noncomputable abbrev PJ(n:Nat):List V:=((List.range n).map Int.ofNat).map V.int
theorem Qf(n:Nat):(PJ n).length=n:=by simp
theorem M2(hc:X.calm=true):Bh X (.type "tuple") (λxs H Q=>∃p n,xs=[.ref p]/\H p=some (.rng 0 (n:Nat))/\n<=1000/\∀l,H l=none->Q (.ref l) (upd H l (.tup (PJ n)))):=by
 intro pins s σ H xs us Q I r h;obtain⟨p,n,rfl,hp,hn,q⟩:=h;obtain⟨u,rfl,ru⟩:=Vals.one r;cases ru;obtain⟨t,u,v,e⟩:=I.hok p _ hp;refine callType_codes PySem.F.called_tuple (PySem.F.typeCall_tuple_1 (.ref p)) PySem.F.entry_object_init (Q₁:=λx s₁=>s₁.TypeIs x "tuple" /\ EP X pins σ Q x s₁) ?_ (λx s₁ z=>And.intro z.1 (And.intro (PySem.F.args_object_init_2 x (.ref p)) ?_))
 ·refine codeAny_call_builtin PySem.F.plain_tuple_new PySem.F.entry_tuple_new (AAw (PySem.F.newCall_tuple_1 _) ?_);have a1:=sub_tuple_self;have a2:=init_tuple_lookup;have a3:=madeHere_tuple;have a4:s.TypeIs (.ref p) "range" := ⟨_,e,rfl⟩;unfold Builtin.«tuple.__new__»;have go:∀(A:Around) (Q:List Value->Shared->Prop) (E:Value->Shared->Prop),A.handled=none->(∀h' tk (acc:List Value),(∀b o,s.heap.get? b=some o->h'.get? b=some o)->IntsAre acc ((List.range n).map Int.ofNat)->Q acc { s with heap:=h',toks:=tk })->wpAny (model X.prog X.w) A (collect (.ref p)) Q E s:=λA Q E hh z=>Mx hh e hn z
  wp_walk using go
  ·exact I.ok.hd hc
  ·intro h' tk acc k im;have hl:acc.length=n:=by
    have:=congrArg List.length im.nums;simpa using this
   refine AAA (AAB ?_);unfold Builtin.Tuple.tupleExact;refine AAA (AAq ?_ (by show acc.toArray.size<=sizeLine;rw[sizeLine_eq];simp;omega));have I1:=I.kept (t':=tk) k;refine AAB ⟨⟨_,AAD _ rfl,rfl⟩,.ref h'.objs.size,_,I1.laid (t':=tk) (o:=.tup (PJ n)) (λb o z=>AAC _ z) (AAF _) ⟨by rw[Qf,sizeLine_eq];omega,acc,Ey im,IsTup.new _ _⟩,rfl,q _ (I1.hok.fresh (AAF _))⟩
 ·exact object_init_meets PySem.F.called_tuple.init.lookup PySem.F.called_tuple.made (by decide) X.prog X.w X.A.in1 (wants (λr s₂=>r=.none/\EP X pins σ Q x s₂) X.xe) s₁ (And.intro z.1 (And.intro rfl z.2))
end
end L2
namespace Mi
open PySem L2 Ht
noncomputable def Wn(n:Nat):List D:=((List.range n).map Int.ofNat).map D.int
noncomputable def O0(how:List D->D)(d:D):M D:=match d with
 | .int j=>λμ=>if 0<=j/\j<=1000 then some (how (Wn j.toNat),μ) else none
 |_=>BK
section
variable{X:Cx}{e:Expr}{pos p p2 pos2:Pos}
theorem VH{T:String}{f:List D->D}{how:List V->HO}{m:Sl->M D}(call:X.calm=true->Bh X (.type T) (λxs H Q=>∃p n,xs=[.ref p]/\H p=some (.rng 0 (n:Nat))/\n<=1000/\∀l,H l=none->Q (.ref l) (upd H l (how (PJ n)))))
  (fin:∀{ι:Nat->Addr} {μ:Mh} {H:Hp} {Q:VK} {ds:List D} {vs:List V},RelH X.kw ι μ H->IsL X.kw ι μ.length H ds vs->(Aft X.kw ι μ H μ λι' H'=>∀v,Is X.kw ι' μ.length H' (f ds) v->Q v H')->∀l,H l=none->Q (.ref l) (upd H l (how vs)))
  (yl:X.mg T=none) (ys:X.mg "range" = none) (bt:bootBuiltins T=some (.type T)) (he:RE X e m) (hc:X.calm=true:=by rfl) (hgl:Gl X T:=by rfl) (hgs:Gl X "range" := by rfl) (hst:En e=false:=by rfl) (n1:(T:Str) ≠ "__name__" := by decide) (n2:((T:Str)==("__debug__" : Str))=false:=by decide) :
  RE X (.Call (.Name T p) [.Call (.Name "range" p2) [e] [] pos2] [] pos) (mUn (O0 f) m):=by
 have hs:PE X (.Call (.Name "range" p2) [e] [] pos2) _:=DX Q6 hgs ys PyProof.Rows.boot_range (Du he.pe Fe (As hst)) (by decide) (by decide) (As hst) rfl;refine RE.wk (DX (call hc) hgl yl bt (Du hs Fe (As rfl)) n1 n2 (As rfl) rfl) λσ H Q h=>?_;obtain⟨ι,μ,τ,d,μ',R,S,ev,q⟩:=h;obtain⟨x,μ1,e1,e2⟩:=AL ev;refine⟨ι,μ,τ,x,μ1,R,S,e1,λι1 H1 E1 R1 v1 i1=>?_⟩;cases x with
 |int j=>
  have e3:(if 0<=j/\j<=1000 then some (f (Wn j.toNat),μ1) else none)=some (d,μ'):=e2;split at e3
  ·rename_i hj;cases e3;have z:=BX i1;subst z;have ej:j=((j.toNat:Nat):Int):=by omega
   refine⟨j.toNat,by rw[←ej],λp hp=>?_⟩;obtain⟨E2,R2⟩:=R1.laid (.rng 0 (j.toNat:Nat)) hp;exact⟨p,j.toNat,rfl,BJ,by omega,λl hl=>fin R2 (IX _) (λι' H' E' R'=>q ι' H' ((E1.trans E2).trans E') R') l hl⟩
  ·cases e3
 |_=>cases e2
theorem Jq(yl:X.mg "tuple" = none)(ys:X.mg "range" = none)(he:RE X e m)(hc:X.calm=true:=by rfl)(hgl:Gl X "tuple" := by rfl)(hgs:Gl X "range" := by rfl)(hst:En e=false:=by rfl):
  RE X (.Call (.Name "tuple" p) [.Call (.Name "range" p2) [e] [] pos2] [] pos) (mUn (O0 D.tup) m):=VH (T := "tuple") (how:=HO.tup) M2 MQ yl ys Mi.BQ he hc hgl hgs hst
end
end Mi
namespace L2
open PySem PySem.Spec PyProof.Rows Sem Ht
theorem Ob:fillsNumberSlot (.type "tuple") "mul" = Pure.pure false:=PySem.fillsNumberSlot_seq (id := "tuple.__mul__") (r:=some (.builtin "tuple.__rmul__")) PySem.F.slot_tuple_mul.lookup (by decide +kernel) PySem.F.slot_tuple_rmul.lookup (by decide +kernel)
theorem Rx:seqRepeat? (.type "tuple")=Pure.pure (some (.builtin "tuple.__mul__")):=by
 unfold seqRepeat?;rw[PySem.seqSlot_of (T := "tuple") (name := "__mul__") PySem.F.slot_tuple_mul.lookup (by decide +kernel),PySem.seqSlot_of (T := "tuple") (name := "__rmul__") PySem.F.slot_tuple_rmul.lookup (by decide +kernel)];rfl
section
variable{w:World}{A:Around}{s:Shared}
theorem Ry(a:Int)(t:Tok)(l:Addr)(items:Array Value):Meets (Builtin.«int.__rmul__» ⟨[.int a t,.ref l],[]⟩) (λ_ R s=>IsTup s.heap l items/\R (.ok (.ret Value.notImplemented)) s):=
 .of_wp λprog w A R s h=>by
  obtain⟨⟨o,ho,hc,n,hd⟩,h⟩:=h;have hT:s.TypeIs (.ref l) "tuple" := ⟨o,ho,hc⟩;have z:=PySem.F.sub_tuple_int
  wp_walk
  rw[hd]
  wp_walk
  exact⟨_,rfl,h⟩
theorem Xd(l:Addr)(items:Array Value)(k:Int)(t:Tok)(h0:items.isEmpty=false)(h1:1<=k)(h2:k<=1000)(h3:items.size<=1000):
  Meets (Builtin.«tuple.__mul__» ⟨[.ref l,.int k t],[]⟩) (λ_ R s=>IsTup s.heap l items/\(k=1->R (.ok (.ret (.ref l))) s)/\(k≠1->R (.ok (.ret (.ref s.heap.objs.size))) { s with heap:=s.heap.push { cls:=.type "tuple",data:=.seq ((List.replicate k.toNat items).foldl (·++·) #[]) } })):=
 .of_wp λprog w A R s h=>by
  obtain⟨⟨o,ho,hc,n,hd⟩,q1,q2⟩:=h;have hT:s.TypeIs (.ref l) "tuple" := ⟨o,ho,hc⟩;have b1:(items.size:Int) * k<=1000000:=by
   have:=Int.mul_le_mul (show (items.size:Int)<=1000 by omega) h2 (by omega) (by omega);omega
  have c1:(decide (k < -2 ^ 63)||decide (k ≥ 2 ^ 63))=false:=by simp;omega
  have c3:(decide (k<=0)||items.isEmpty)=false:=by rw[h0];simp;omega
  have c5:Builtin.Tuple.tupleTooMany ((items.size:Int) * k)=false:=by
   unfold Builtin.Tuple.tupleTooMany;simp[sizeLine_eq];omega
  unfold Builtin.«tuple.__mul__»
  wp_walk
  rw[c1,if_neg AAg];refine AAA ?_;unfold Builtin.Tuple.tupleItemsOf;refine AAA (AAy ho hd (AAB ?_));rw[h0];by_cases hk:k=1
  ·have c2:(false||k==1)=true:=by simp[hk]
   rw[c2];simp only[↓reduceIte]
   wp_walk
   exact⟨_,rfl,q1 hk⟩
  ·have c2:(false||k==1)=false:=by simp[hk]
   rw[c2];simp only[Bool.false_eq_true,↓reduceIte];rw[Bool.or_false,AAO (show ¬k<=0 by omega)];simp only[Bool.false_eq_true,↓reduceIte];rw[if_neg (show ¬(items.size:Int) * k > (2 ^ 63-1) / 8 by omega),c5];simp only[Bool.false_eq_true,↓reduceIte];unfold Builtin.Tuple.tupleExact;refine AAA (AAq (AAB ⟨_,rfl,q2 hk⟩) ?_);show ((List.replicate k.toNat items).foldl (·++·) #[]).size<=sizeLine;have sz:∀(m:Nat) (z:Array Value),((List.replicate m items).foldl (·++·) z).size=z.size+m * items.size:=by
    intro m
    induction m with
    |zero=>intro z;simp
    |succ m ih=>intro z;rw[AAl,List.foldl_cons,ih,Array.size_append,Nat.succ_mul];omega
   rw[sz,sizeLine_eq];have:((k.toNat * items.size:Nat):Int)=(items.size:Int) * k:=by
    rw[Int.natCast_mul,Int.toNat_of_nonneg (by omega),Int.mul_comm]
   simp;omega
end
theorem Ie(its:List Value):∀(m:Nat) (z:List Value),(List.replicate m its.toArray).foldl (·++·) z.toArray=(z++(List.replicate m its).flatten).toArray
 |0,z=>by simp
 |m+1,z=>by
  rw[AAl,List.foldl_cons,List.append_toArray,Ie its m,AAl,List.flatten_cons,List.append_assoc]
theorem Vals.reps(r:Vals vs us):∀m:Nat,Vals (List.replicate m vs).flatten (List.replicate m us).flatten
 |0=>.nil
 |m+1=>by
  rw[AAl,List.flatten_cons,AAl,List.flatten_cons];exact r.append (Vals.reps r m)
section
variable{X:Cx}
theorem Vm:OpR X (binaryOp .Mult) (λx y H Q=>∃l k xs,x=.ref l/\y=.int k/\SqT X.kw H l xs/\xs≠[]/\xs.length<=1000/\1<=k/\k<=1000/\(k=1->Q (.ref l) H)/\(k≠1->∀p,H p=none->Q (.ref p) (upd H p (.tup (List.replicate k.toNat xs).flatten)))):=by
 intro pins s σ H x y v u Q I rx ry h;obtain⟨l,k,xs,rfl,rfl,ha,hx,hz,k1,k2,q1,q2⟩:=h;cases rx;obtain⟨t,rfl⟩:=ry;obtain⟨its,r,p,_⟩:=I.tuple ha;have hlen:=r.length;have hT:s.TypeIs (.ref l) "tuple" := by obtain⟨o,e,c,_⟩:=p;exact⟨o,e,c⟩
 have he:its.toArray.isEmpty=false:=by
  cases its with
  |nil=>exact absurd (List.length_eq_zero_iff.mp (by simpa using hlen)) hx
  |cons a b=>rfl
 refine wpAny_binaryOp_repeat_ref (T := "tuple") (U := "int") (by decide) hT (λs'=>typeIs_int s' k t) Ob PySem.F.fills_int_mul PySem.F.slot_int_rmul Rx PySem.F.slot_int_index.lookup ?_;refine call_meets PySem.F.slot_int_rmul (typeIs_int s k t) PySem.F.entry_int_rmul (PySem.F.args_int_rmul_2 _ _) (Ry k t l its.toArray) ⟨p,rfl,hT,?_⟩;refine call_meets PySem.F.slot_tuple_mul hT PySem.F.entry_tuple_mul (PySem.F.args_tuple_mul_2 _ _) (Xd l its.toArray k t he k1 k2 (by rw[List.size_toArray];omega)) ⟨p,λz=>⟨.ref l,H,I,rfl,q1 z⟩,λz=>?_⟩;have ef:=Ie its k.toNat [];rw[List.nil_append] at ef;rw[ef];refine⟨.ref s.heap.objs.size,_,I.laid (t':=s.toks) (o:=.tup (List.replicate k.toNat xs).flatten) (λb ob q=>AAC _ q) (AAF _) ⟨?_,_,r.reps _,IsTup.new _ _⟩,rfl,q2 z _ (I.hok.fresh (AAF _))⟩;rw[PP,sizeLine_eq];have:k.toNat * xs.length<=1000 * 1000:=Nat.mul_le_mul (by omega) hz;omega
end
end L2
namespace Mi
open PySem L2 Ht
noncomputable def Nb(a b:D):M D:=match a,b with
 | .tup ds,.int k=>λμ=>if ds≠[]/\ds.length<=1000/\1<=k/\k<=1000 then some (.tup (List.replicate k.toNat ds).flatten,μ) else none
 |a,b=>C4 a b
section
variable{X:Cx}
theorem YR:OpR X (binaryOp .Mult) (rM X.kw Nb):=λpins s σ H x y v u Q I rx ry h=>by
 obtain⟨ι,μ,a,b,d,μ',R,ia,ib,e,q⟩:=h;unfold Nb at e;split at e
 ·rename_i ds k;split at e
  ·rename_i hc;obtain⟨c1,c2,c3,c4⟩:=hc;cases e;have zb:=BX ib;subst zb;unfold Is at ia;obtain⟨p,vs,rfl,h1,h2⟩:=ia;have hl:=h2.length;refine Vm pins s σ H _ _ v u Q I rx ry ⟨p,k,vs,rfl,rfl,h1,λz=>c1 (List.length_eq_zero_iff.mp (by rw[←hl,z];rfl)),by omega,c3,c4,λz=>?_,λz=>?_⟩
   ·subst z;refine q ι H R.ext0 R _ ?_;unfold Is;exact⟨p,vs,rfl,h1,by simpa using h2⟩
   ·exact MQ R (h2.rep _) q
  ·cases e
 ·exact F3 pins s σ H _ _ v u Q I rx ry ⟨ι,μ,a,b,d,μ',R,ia,ib,e,q⟩
end
end Mi
namespace L2
open PySem PySem.Spec PyProof.Rows
section
variable{X:Cx}{scope:Scope}{tgs:List Str}{ix:List Nat}
noncomputable def Lb(P:Program)(w:World)(A:Around):Option Expr->Env->(Bool->Shared->Prop)->(Value->Shared->Prop)->Shared->Prop
 |none,_,Q,_,s=>Q true s
 |some c,env,Q,E,s=>wpAny (model P w) A (isTrue c env (eval c env)) Q E s
theorem Rv:∀{co:Option Expr},Lb P w A co env Q (λ_ _=>False) s->(∀b s,Q b s->Q' b s)->Lb P w A co env Q' E s
 |none,h,k=>k _ _ h
 |some _,h,k=>G3 h k
def Xa(P:Program)(w:World)(A:Around)(tg elt:Expr)(co:Option Expr)(it acc:Value)(env:Env)(R:Result->Shared->Prop)(G:Shared->Prop)(r:Option Value)(s1:Shared):Prop:=match r with
 |none=>R (.ok .next) s1
 |some v=>wpAny (model P w) A (letOwnedTupleGo tg it v) (λ_ s0=>wpAny (model P w) A (assign tg env v) (λ_ s2=>
   Lb P w A co env (λok s3=>if ok=true then wpAny (model P w) A (eval elt env) (λx s4=>wpAny (model P w) A (call (.builtin "list.append") [acc,x]) (λ_ s5=>G s5) (notedBy (model P w) A env λe s'=>R (.error e) s') s4) (notedBy (model P w) A env λe s'=>R (.error e) s') s3 else G s3)
    (notedBy (model P w) A env λe s'=>R (.error e) s') s2) (notedBy (model P w) A env λe s'=>R (.error e) s') s0) (notedBy (model P w) A env λe s'=>R (.error e) s') s1
theorem Td(I:Nat->Shared->Prop):∀(co:Option Expr),
  (∀n s,I n s->wpAny (model P w) A (pyNext it) (Xa P w A tg elt co it acc env R λs5=>∃m,m<n/\I m s5) (notedBy (model P w) A env λe s'=>R (.error e) s') s)->∀n,I n s->
  codeAny (model P w) A (.compLoop (.ListComp elt [⟨tg,iter,co.toList,0⟩] scope pos) 0 it acc env) R s
 |none,turn,n,h=>PySem.W.kcp_loop I (λn s hI=>AAj (turn n s hI) (λr s1 q=>match r,q with
   |none,q=>q
   |some v,q=>AAj q (λ_ _ q=>AAj q (λ_ _ q=>by
     have q':=q;dsimp only[Lb] at q';rw[if_pos rfl] at q';exact q') λ_ _ x=>x) λ_ _ x=>x) λ_ _ x=>x) n h
 |some c,turn,n,h=>PySem.W.kct_loop I (λn s hI=>AAj (turn n s hI) (λr s1 q=>match r,q with
   |none,q=>q
   |some v,q=>q) λ_ _ x=>x) n h
def WT(X:Cx)(co:Option Expr)(tc:TT):Prop:=
 ∀(pins:List (Addr×Obj)) (s:Shared) (σ:St) (H:Hp) (Q:Bool->Hp->Prop),Inv X pins σ H s->tc σ H Q->Lb X.prog X.w X.A co X.env (TP X pins σ Q) X.xe s
theorem Ma:∀{is:List Nat},(∀i∈is,i<n)->∀vs σ H (Q:St->Hp->Prop),Mi.Eo is vs σ H Q->Mi.Eo is vs σ H λσ2 H2=>Q σ2 H2/\σ2.length=σ.length/\σ2.drop n=σ.drop n
 |[],_,vs,σ,H,Q,h=>⟨h.1,h.2,rfl,rfl⟩
 |i::is,hi,vs,σ,H,Q,h=>by
  obtain⟨v,vr,rfl,h⟩:=h;refine⟨v,vr,rfl,?_⟩;have z:=Ma (is:=is) (λj hj=>hi j (AAR _ hj)) vr _ H Q h;have e1:(σ.set i (some v)).length=σ.length:=by simp
  have e2:(σ.set i (some v)).drop n=σ.drop n:=by rw[List.drop_set_of_lt (hi i (by simp))]
  rw[e1,e2] at z;exact z
theorem Yh{n k:Nat}{K:PySem.W.Frag}(h:∀i∈is,i<n):GK n (Yi K k (Mi.Eo is)):=λx σ H Q q=>by
 obtain⟨a,xs,e,h1,h2,h3⟩:=q;exact⟨a,xs,e,h1,h2,Ma h _ _ _ _ h3⟩
theorem Mw{elt tg iter:Expr}{co:Option Expr}{pos:Pos}{g:TG}{tc:TT}{te:TE}{pins:List (Addr×Obj)}{fp:List Addr}{tn:Nat->Heap->Prop}{J:It}{Q:VK}
  (S:BScope X scope tgs ix) (hc:X.calm=true) (hg:∀fp C s H,PG (cxB X scope tgs fp C s H) tg g) (hgk:GK tgs.length g) (hi:∀fp C s H,WT (cxB X scope tgs fp C s H) co tc) (he:∀fp C s H,PE (cxB X scope tgs fp C s H) elt te)
  (I2:Inv X pins σ H2 s2) (T:LM X.prog X.w X.kw tg J fp it tn) (t0:tn 0 s2.heap) (hf:∀b∈fp,EQ X pins H2 b)
  (W:Nat->Nat->List V->Hp->Prop) (w0:∃m,W 0 m [] H2)
  (turn:∀i m ys H,W i m ys H->(J.stop i H/\ys.length<=sizeLine/\∀p,H p=none->Q (.ref p) (upd H p (.lst ys))) ∨
   (J.go i H/\ys.length<sizeLine/\∃N:List V->Hp->Prop,(∀ys' H',N ys' H'->∃m',m'<m/\W (i+1) m' ys' H')/\∀x H',J.yld i H x H'->g x (B7 tgs ix σ) H' λσ2 H2=>tc σ2 H2 λb H3=>
    if b=true then te σ2 H3 λv H4=>N (ys++[v]) H4 else N ys H3))
  {RR:Value->Addr->Result->Shared->Prop}
  (fin:∀(D C:Addr) (s':Shared) (H':Hp) (m:Str->Option Value),Inv X pins σ H' s'->Q (.ref D) H'->s'.heap.Ns C m->EQ X pins H' C->RR (.ref D) C (.ok .next) s') :
  wpAny (model X.prog X.w) X.A (newList []) (λacc s₃=>wpAny (model X.prog X.w) X.A (newFunctionEnv scope X.env.globals (DR X.env scope.names []) [] X.env.qual none .none (some X.env)) (λcenv s₄=>
   codeAny (model X.prog X.w) X.A (.compStart (.ListComp elt [⟨tg,iter,co.toList,0⟩] scope pos) 0 (.ref it) acc { cenv with scope:=relabel scope X.env }) (RR acc cenv.locals) s₄) X.xe s₃) X.xe s2:=by
 refine AAq (wpAny_newFunctionEnv S.nocell (by intro y hy;simp at hy) (λh₁ hns₁ hsb₁=>?_) S.kind);dsimp only at hns₁ hsb₁ ⊢;generalize hH2:s2.heap.push { cls:=.type "list",dict:=none,data:=.seq ([]:List Value).toArray }=G2 at hns₁ hsb₁ ⊢;have hC:G2.objs.size=s2.heap.objs.size+1:=by rw[←hH2,Heap.size_push]
 have hCle:s2.heap.objs.size<=G2.objs.size:=by rw[hC];exact Nat.le_succ _
 have hDC:s2.heap.objs.size≠G2.objs.size:=by rw[hC];exact AAe (Nat.lt_succ_self _)
 have below:∀b,b<s2.heap.objs.size->b≠G2.objs.size/\b≠s2.heap.objs.size:=λb hb=>⟨by rw[hC];exact AAe (AAh hb),AAe hb⟩;have old:∀b o,s2.heap.get? b=some o->h₁.get? b=some o:=λb o e=>hsb₁.extBut b o (below b (Heap.lt_size e)).1 (AAC _ (hH2 ▸ AAC _ e));have hacc:h₁.get? s2.heap.objs.size=some (EO [] 0):=hsb₁.extBut _ _ hDC (AAC _ (hH2 ▸ AAD _ rfl));have hfo:∀b∈fp,b<s2.heap.objs.size:=λb hb=>let ⟨o,e,_⟩:=T.obj 0 _ t0 b hb;Heap.lt_size e
 have ok:=N9 (tgs:=tgs) (ix:=ix) (C:=G2.objs.size) S I2 hf hfo hCle;have sub:∀x c,(DR X.env scope.names []).lookup x=some c->X.env.cells.lookup x=some c:=Dg scope.names [] (λ_ _ z=>by simp at z);have nDfs:s2.heap.objs.size∉frs X.stack:=λhz=>by
  rcases AAJ.mp (I2.stkSub _ hz) with z|z
  ·exact absurd I2.lt (by rw[←z];exact AA1 _)
  ·exact I2.nofs (AAF _) z
 have nDcell:∀x c,(DR X.env scope.names []).lookup x=some c->c≠s2.heap.objs.size:=λx c e=>AAe (I2.cellLt (sub x c e));have ncell:∀(its:List Value) (k:Nat) (v:Option Value),(EO its k).data≠.cell v:=λits k v z=>by cases z
 have stat:∀{Hx:Hp} {o:Obj},(∀b∈fp,Hx b=none)->∀b∈fp,EQ (cxB X scope tgs fp G2.objs.size s2 H2) [(s2.heap.objs.size,o)] Hx b:=λ{Hx o} hn b hb=>
  ⟨hn b hb,(ok.exf b hb).1,ok.exfs b hb,.inl hb,(ok.exf b hb).2,λp hp z=>by
   have e:p=(s2.heap.objs.size,o):=by simpa[cxB] using hp
   subst e;exact absurd (hfo b hb) (by rw[←z];exact AA1 _)⟩
 have loop:∀s₃:Shared,s₃={ s2 with heap:=h₁,toks:=s2.toks+([]:List (Str×Value)).length }->
   codeAny (model X.prog X.w) X.A (.compLoop (.ListComp elt [⟨tg,iter,co.toList,0⟩] scope pos) 0 (.ref it) (.ref s2.heap.objs.size) (compEnvC scope (DR X.env scope.names []) G2.objs.size X.env)) (RR (.ref s2.heap.objs.size) G2.objs.size) s₃:=by
  rintro s₃ rfl;obtain⟨m0,w0⟩:=w0;refine Td (λn s=>∃i ys its k H,Inv (cxB X scope tgs fp G2.objs.size s2 H2) [(s2.heap.objs.size,EO its k)] (B7 tgs ix σ) H s/\tn i s.heap/\(∀b∈fp,H b=none)/\Vals ys its/\W i n ys H) co ?_ m0
   ⟨0,[],[],0,H2,IZ S I2 hf hfo hCle (AAF _) hDC hns₁ old rfl rfl hacc (ncell _ _),T.keep 0 _ _ t0 λb _ o e=>old b o e,λb hb=>(hf b hb).1,.nil,w0⟩
  rintro n s ⟨i,ys,its,k,H,I,st,fr,rv,w⟩;rcases turn i n ys H w with ⟨stop,hz,q⟩|⟨go,hz8,N,hN,step⟩
  ·refine thn (T.done (cxB X scope tgs fp G2.objs.size s2 H2) rfl rfl rfl hc i _ s _ H _ I (stat fr) st stop) λr s1 ⟨hr,I1⟩=>?_;subst hr;obtain⟨pe,pn,_⟩:=I1.pin (s2.heap.objs.size,EO its k) (AAb _ (by simp));have J0:Inv X pins σ H s1:=I2.call' I1.os I1.base I1.hok I1.bare λb hb=>⟨(hf b hb).2.2.2.1,(hf b hb).2.1,(hf b hb).2.2.2.2.1,(hf b hb).2.2.2.2.2⟩;have J1:Inv X pins σ (upd H s2.heap.objs.size (.lst ys)) s1:=J0.track (I2.fpOk (AAF _) pn) ⟨hz,its,k,rv,pe⟩;obtain⟨m,hn,_⟩:=I1.loc;exact fin _ _ s1 _ m J1 (q _ pn) hn (I2.fpOk hCle (by rw[A5 (Ne.symm hDC)];exact I1.free))
  ·refine thn (T.item (cxB X scope tgs fp G2.objs.size s2 H2) rfl rfl rfl hc i _ s _ H _ I (stat fr) st go) λr s1 ⟨u,hr,h1⟩=>?_;subst hr;refine thn h1 λ_ s5 ⟨x,H5,I5,r5,y5,st5,fr5⟩=>?_;have I5':=I5.pinned (stat fr5) (T.obj _ _ st5);refine G3 (hg fp G2.objs.size s2 H2 _ s5 _ H5 x u _ I5' r5 (hgk _ _ _ _ (step x H5 y5))) λ_ s6 ⟨σ6,H6,I6,q6,l6,d6⟩=>?_;refine Rv (hi fp G2.objs.size s2 H2 _ s6 σ6 H6 _ I6 q6) λokb s7 ⟨H7,I7,q7⟩=>?_;cases okb with
   |false=>
    rw[if_neg AAg] at q7 ⊢;obtain⟨m',hm,w7⟩:=hN _ _ q7;refine⟨m',hm,i+1,ys,its,k,H7,OZ I7.unpinned l6 d6,T.keep _ _ _ st5 λb hb o e=>(I7.pin (b,o) (AAb _ (AAb _ (BW hb e)))).1,λb hb=>?_,rv,w7⟩;obtain⟨o,e,_⟩:=T.obj _ _ st5 b hb;exact(I7.pin (b,o) (AAb _ (AAb _ (BW hb e)))).2.1
   |true=>
    rw[if_pos rfl] at q7 ⊢;refine G3 (he fp G2.objs.size s2 H2 _ s7 σ6 H7 _ I7 q7) λxv s8 ⟨v,H8,I8,rv8,q8⟩=>?_;obtain⟨m',hm,w8⟩:=hN _ _ q8;obtain⟨pe,pn,_⟩:=I8.pin (s2.heap.objs.size,EO its k) (AAb _ (AAc _ (by simp)));have hlen:=rv.length;refine call_meets PySem.F.slot_list_append ⟨_,pe,rfl⟩ PySem.F.entry_list_append (PySem.F.args_list_append_2 _ _) (PySem.list_append s2.heap.objs.size its.toArray k xv (by rw[List.size_toArray];omega)) ⟨pe,?_⟩;have hp:its.toArray.push xv=(its++[xv]).toArray:=by simp
    have q':∃k',(s8.heap.update s2.heap.objs.size (Obj.mapSeq (λa=>a.push xv))).get? s2.heap.objs.size=some (EO (its++[xv]) k'):=⟨_,by
     unfold EO;rw[←hp];exact PySem.IsL.update pe (λa=>a.push xv)⟩
    obtain⟨k',q'⟩:=q';have I9:Inv (cxB X scope tgs fp G2.objs.size s2 H2) [] σ6 H8 { s8 with heap:=s8.heap.update s2.heap.objs.size (Obj.mapSeq (λa=>a.push xv)) }:=
     (I8.pins_of (pins':=[]) (λp hp=>absurd hp (by simp))).turned (t':=s8.toks) (λb o hb e=>(Heap.get?_update_other s8.heap (Obj.mapSeq (λa=>a.push xv)) (Ne.symm hb)).trans e) pn hDC (.inr (AAF _)) nDcell (λp hp=>absurd hp (by simp[cxB]))
    have I10:Inv (cxB X scope tgs fp G2.objs.size s2 H2) [(s2.heap.objs.size,EO (its++[xv]) k')] σ6 H8 { s8 with heap:=s8.heap.update s2.heap.objs.size (Obj.mapSeq (λa=>a.push xv)) }:=
     I9.pins_of λp hp=>by
      have e:p=(s2.heap.objs.size,EO (its++[xv]) k'):=by simpa using hp
      subst e;exact⟨q',pn,hDC,nDfs,ncell _ _⟩
    refine⟨m',hm,i+1,ys++[v],its++[xv],k',H8,OZ I10 l6 d6,T.keep _ _ _ st5 λb hb o e=>?_,λb hb=>?_,rv.append (.cons rv8 .nil),w8⟩
    ·exact(Heap.get?_update_other s8.heap (Obj.mapSeq (λa=>a.push xv)) (Ne.symm (below b (hfo b hb)).2)).trans (I8.pin (b,o) (AAb _ (AAb _ (BW hb e)))).1
    ·obtain⟨o,e,_⟩:=T.obj _ _ st5 b hb;exact(I8.pin (b,o) (AAb _ (AAb _ (BW hb e)))).2.1
 exact codeAny_compStart_list (loop _ rfl) (T.self _ 0 _ _ _ (T.keep 0 _ _ t0 λb _ o e=>old b o e) (loop _ rfl))
end
end L2
namespace Mi
open PySem L2
section
variable{X:Cx}{tgs:List Str}{ix:List Nat}
theorem QR:WT X none (tT K EG):=λpins s σ H Q I h=>by
 obtain⟨ι,μ,τ,b,μ',R,S,e,q⟩:=h;cases e;exact⟨H,I,q ι H R.ext0 R⟩
theorem R9(hn:tgs.length=n)(hg:∀v σ H Q,tG K bf v σ H Q->g v σ H Q)(hf:∀ι μ μ' H ds vs d (Q:VK),RelH K ι μ H->IsL K ι μ.length H ds vs->fin ds μ=some (d,μ')->(Aft K ι μ H μ' λι' H'=>∀v,Is K ι' μ'.length H' d v->Q v H')->
   vs.length<=sizeLine/\∀p,H p=none->Q (.ref p) (upd H p (.lst vs)))
  (h:tE K (Cd n ix src bf mc me fin) σ H Q):Le tgs ix (tI K src) g (tT K mc) (tE K me) σ H Q:=by
 subst hn;obtain⟨ι,μ,τ,d,μ',R,S,e,q⟩:=h;obtain⟨ds,μ1,e1,e5⟩:=AL e;obtain⟨u,μ2,e2,e6⟩:=AL e5;obtain⟨zs,μ3,e3,e7⟩:=AL e6;obtain⟨hl,e4⟩:=C6 e2;clear e e5 e6;subst e4;refine⟨ι,μ,τ,ds,_,R,S,e1,λι1 H1 E1 R1 J it=>?_⟩;refine⟨λi' m ys H=>m=ds.length-i'/\i'<=ds.length/\ys.length<=i'/\∃(ι:Nat->Addr) (μ:Mh) (as:List D),RelH K ι μ H/\RelS K ι μ.length H τ σ/\ItM K J ds ι μ H/\IsL K ι μ.length H as ys/\Fj bf mc me (DF tgs.length ix τ) (ds.drop i') as μ=some (zs,μ3) /\
  Aft K ι μ H μ' λι' H'=>∀v,Is K ι' μ'.length H' d v->Q v H',⟨ds.length,by simp,AAk _,AAF _,ι1,_,[],R1,S.ext E1,it,.nil,e3,λι2 H2 E2 R2=>q ι2 H2 (E1.trans E2) R2⟩,?_⟩
 rintro i' m ys H ⟨hm,hil,hyl,ι,μ,as,R,S,it,ia,e3,q⟩;obtain⟨go,stop,yl⟩:=it ι μ H R.ext0 R;by_cases hlt:i'<ds.length
 ·refine .inr ⟨go i' hlt,by omega,λys' H'=>ys'.length<=i'+1/\∃(ι:Nat->Addr) (μ:Mh) (as:List D),RelH K ι μ H'/\RelS K ι μ.length H' τ σ/\ItM K J ds ι μ H'/\IsL K ι μ.length H' as ys'/\Fj bf mc me (DF tgs.length ix τ) (ds.drop (i'+1)) as μ=some (zs,μ3) /\
   Aft K ι μ H' μ' λι' H'=>∀v,Is K ι' μ'.length H' d v->Q v H',λys' H' z=>⟨_,(by omega:ds.length-(i'+1)<m),rfl,hlt,z⟩,λx H2 y=>?_⟩
  have hd:ds[i']?=some ds[i']:=by simp[hlt]
  obtain⟨E2,R2,ix2⟩:=yl i' x H2 _ hd y;rw[List.drop_eq_getElem_cons hlt] at e3;obtain⟨τ1,μ1,e1,e5⟩:=AL e3;clear e3;obtain⟨cc,μ2,e2,e6⟩:=AL e5;clear e5;have S2:=(S.ext E2).block (tgs:=tgs) (ix:=ix);refine hg _ _ _ _ ⟨ι,_,_,_,τ1,μ1,R2,S2,ix2,e1,λι0 H0 E0 R0 σ0 S0=>?_⟩;have E20:=E2.trans E0;refine⟨ι0,_,_,cc,μ2,R0,S0,e2,λι3 H3 E3 R3=>?_⟩;have E13:=E20.trans E3;cases cc with
  |false=>
   exact⟨by omega,ι3,μ2,as,R3,S.ext E13,it.ext E13,ia.ext E13,e6,λι5 H5 E5 R5=>q ι5 H5 (E13.trans E5) R5⟩
  |true=>
   obtain⟨y',μ4,e4,e8⟩:=AL e6;refine⟨ι3,μ2,_,y',μ4,R3,S0.ext E3,e4,λι4 H4 E4 R4 v iv=>?_⟩;have E14:=E13.trans E4;exact⟨by simp;omega,ι4,μ4,as++[y'],R4,S.ext E14,it.ext E14,(ia.ext E14).append (.one iv),e8,λι5 H5 E5 R5=>q ι5 H5 (E14.trans E5) R5⟩
 ·have hi':i'=ds.length:=by omega
  subst hi';rw[List.drop_length] at e3;cases e3;obtain⟨z1,z2⟩:=hf ι _ μ' H _ ys d Q R ia e7 q;exact .inl ⟨stop,z1,z2⟩
theorem Xg(h:tG K (CN is) v σ H Q):Yi K is.length (Eo is) v σ H Q:=by
 obtain⟨ι,μ,τ,d,τ',μ',R,S,i1,e,q⟩:=h;cases d with
 |tup ds=>
  unfold Is at i1;obtain⟨p,vs,rfl,h1,h2⟩:=i1;have e':(if ds.length=is.length then JC is ds τ else BK) μ=some (τ',μ'):=e;by_cases hl:ds.length=is.length
  ·rw[if_pos hl] at e';refine⟨p,vs,rfl,h1,by rw[h2.length,hl],Gw R S h2 e' λz σ' S'=>?_⟩;subst z;exact q ι H R.ext0 R σ' S'
  ·rw[if_neg hl] at e';cases e'
 |_=>cases e
end
end Mi
namespace L2
open PySem PySem.Spec PyProof.Rows
end L2
namespace Mi
open PySem L2 Ht
section
variable{X:Cx}{e tg iter:Expr}{body:List Stmt}{pos:Pos}
noncomputable def N5(n:Nat)(bf:D->Sl->M Sl)(mb:Sl->M (Fl×Sl)):Nat->Nat->Sl->M (Fl×Sl)
 |0,_,_=>BK
 |f+1,i,τ=>λμ=>match μ[n]? with
  |some (.lst ds)=>match ds[i]? with
   |some x=>(bnd (bf x τ) λτ1=>bnd (mb τ1) λr=>match r.1 with
    | .next=>N5 n bf mb f (i+1) r.2
    | .cont=>N5 n bf mb f (i+1) r.2
    | .brk=>ret (.next,r.2)
    | .rt d=>ret (.rt d,r.2)) μ
   |none=>some ((.next,τ),μ)
  |_=>none
noncomputable def We(BO:Nat)(m:Sl->M D)(bf:D->Sl->M Sl)(mb:Sl->M (Fl×Sl)):Sl->M (Fl×Sl):=λτ=>bnd (m τ) λx=>match x with
 | .ref n=>N5 n bf mb BO 0 τ
 |_=>BK
theorem U8(BO:Nat)(hp:PassesOwn (model X.prog X.w) X.A X.env X.xe)(hc:X.calm=true)(hi:RE X iter m)(hg:RG X tg bf)(hb:RSs X body mb)
  (hs:∀x,foldedSetIterable iter X.env x=pure x:=by intro _;rfl):RS X (.For tg iter body [] pos) (We BO m bf mb):=RS.wk (Sv hp hc (O8 hi.pe) hg.pe hb.pe hs) λDn σ H h=>by
 obtain⟨ι,μ,τ,f,τ',μ',R,S,e,q⟩:=h;obtain⟨x,μ1,e1,e2⟩:=AL e;refine⟨ι,μ,τ,x,μ1,R,S,e1,λι1 H1 E1 R1 v i1=>?_⟩;cases x with
 |ref n=>
  unfold Is at i1;obtain⟨hk,rfl⟩:=i1;have hn0:∃ds,μ1[n]?=some (.lst ds):=by
   cases BO with
   |zero=>cases e2
   |succ f=>
    have e3:N5 n bf mb (f+1) 0 τ μ1=some ((_,τ'),μ'):=e2;unfold N5 at e3;split at e3
    ·rename_i ds hd;exact⟨ds,hd⟩
    ·cases e3
  obtain⟨ds0,hn0⟩:=hn0;obtain⟨u,hu,o⟩:=R1.obj n _ hn0;obtain⟨vs0,rfl,iv0⟩:=o;refine⟨_,rfl,⟨vs0,SqL.of hu⟩,?_⟩
  let W:Nat->Nat->St->Hp->Prop:=λi m σ H=>∃ι μ τ f τ' μ',RelH X.kw ι μ H/\RelS X.kw ι μ.length H τ σ/\n<μ.length/\ι n=ι1 n/\N5 n bf mb m i τ μ=some ((f,τ'),μ') /\
   Aft X.kw ι μ H μ' λι' H'=>∀σ',RelS X.kw ι' μ'.length H' τ' σ'->FlP X.kw Dn ι' μ'.length H' τ' σ' f
  refine⟨W,⟨BO,ι1,μ1,τ,f,τ',μ',R1,S.ext E1,hk,rfl,e2,λι2 H2 E2 R2=>q ι2 H2 (E1.trans E2) R2⟩,?_⟩;rintro i m σ H ⟨ι,μ,τ,f,τ',μ',R,S,hn,en,e,q⟩;cases m with
  |zero=>cases e
  |succ m=>
   unfold N5 at e;split at e
   ·rename_i ds hd;obtain⟨u,hu,o⟩:=R.obj n _ hd;obtain⟨vs,rfl,iv⟩:=o;rw[en] at hu;have hl:=iv.length;split at e
    ·rename_i x hx;obtain⟨xv,hxv,ixv⟩:=iv.get hx;refine .inr ⟨⟨vs,xv,SqL.of hu,hxv⟩,λσ' H'=>W (i+1) m σ' H',λσ' H' z=>⟨_,Nat.lt_succ_self _,z⟩,λy H2 yl=>?_⟩;obtain⟨z,yl⟩:=yl;subst z;have:=yl vs (SqL.of hu);rw[hxv] at this;cases this;obtain⟨τ1,μ2,e1,ea⟩:=AL e;obtain⟨⟨f2,τ2⟩,μ3,e2,eb⟩:=AL ea;refine⟨ι,μ,τ,_,τ1,μ2,R,S,ixv,e1,λι3 H3 E3 R3 σ3 S3=>?_⟩;refine⟨ι3,μ2,τ1,f2,τ2,μ3,R3,S3,e2,λι4 H4 E4 R4 σ4 S4=>?_⟩;have E14:=E3.trans E4;have hn4:n<μ3.length:=AAN hn E14.le;have en4:ι4 n=ι1 n:=(E14.agree n hn).trans en;cases f2 with
     |next=>exact⟨ι4,μ3,τ2,f,τ',μ',R4,S4,hn4,en4,eb,λι5 H5 E5 R5=>q ι5 H5 (E14.trans E5) R5⟩
     |cont=>exact⟨ι4,μ3,τ2,f,τ',μ',R4,S4,hn4,en4,eb,λι5 H5 E5 R5=>q ι5 H5 (E14.trans E5) R5⟩
     |brk=>cases eb;exact q ι4 H4 E14 R4 σ4 S4
     |rt d=>cases eb;exact q ι4 H4 E14 R4 σ4 S4
    ·rename_i hx;cases e;have hle:ds.length<=i:=by simpa using hx
     exact .inl ⟨⟨vs,SqL.of hu,by omega⟩,q ι H R.ext0 R σ S⟩
   ·cases e
 |_=>cases e2
end
end Mi
namespace Sq
open PySem PySem.W PyProof.Rows
noncomputable def run{α:Type}(lt:Nat->Nat->Bool):KasT α->α
 | .ret a=>a
 | .ask i j k=>run lt (k (lt i j))
theorem DW:∀t:KasT α,run lt (t.bind f)=run lt (f (run lt t))
 | .ret _=>rfl
 | .ask i j k=>DW (k (lt i j))
structure Ord(N:Nat)(lt:Nat->Nat->Bool):Prop where
 tot:∀i j,i<N->j<N->i≠j->lt i j=true∨lt j i=true
 tr:∀i j k,lt i j=true->lt j k=true->lt i k=true
 irr:∀i,lt i i=false
abbrev Pm(N:Nat)(p:Array Nat):Prop:=p.toList.Perm (List.range N)
section
variable{N:Nat}{lt:Nat->Nat->Bool}{p:Array Nat}
theorem Pm.size(h:Pm N p):p.size=N:=by
 have:=h.length_eq;simpa using this
theorem Pm.bd(h:Pm N p)(hi:i<N):p.getD i 0<N:=by
 have hs:=h.size;have:p.getD i 0∈p.toList:=by
  have e:p.getD i 0=p[i]'(by omega):=by simp[Array.getD,hs,hi]
  rw[e];exact Array.mem_toList_iff.mpr (Array.getElem_mem _)
 exact List.mem_range.mp (h.mem_iff.mp this)
theorem Pm.inj(h:Pm N p)(hi:i<N)(hj:j<N)(e:p.getD i 0=p.getD j 0):i=j:=by
 have hs:=h.size;have nd:p.toList.Nodup:=h.nodup_iff.mpr List.nodup_range;have e1:p.getD i 0=p.toList[i]'(by simp[hs,hi]):=by simp[Array.getD,hs,hi]
 have e2:p.getD j 0=p.toList[j]'(by simp[hs,hj]):=by simp[Array.getD,hs,hj]
 rw[e1,e2] at e;exact(List.getElem_inj nd).mp e
theorem Pm.tot(h:Pm N p)(o:Ord N lt)(hi:i<N)(hj:j<N)(hne:i≠j):lt (p.getD i 0) (p.getD j 0)=true∨lt (p.getD j 0) (p.getD i 0)=true:=o.tot _ _ (Pm.bd h hi) (Pm.bd h hj) λe=>hne (h.inj hi hj e)
theorem Pm.not(h:Pm N p)(o:Ord N lt)(hi:i<N)(hj:j<N)(hne:i≠j)(e:lt (p.getD i 0) (p.getD j 0)=false):lt (p.getD j 0) (p.getD i 0)=true:=(h.tot o hi hj hne).elim (λz=>by rw[e] at z;cases z) id
def Up(lt:Nat->Nat->Bool)(p:Array Nat)(n:Nat):Prop:=∀i j,i<j->j<n->lt (p.getD i 0) (p.getD j 0)=true
theorem Up.more(o:Ord N lt)(h:Up lt p n)(hn:1<=n)(e:lt (p.getD (n-1) 0) (p.getD n 0)=true):Up lt p (n+1):=λi j hij hj=>by
 rcases Nat.lt_or_ge j n with z|z
 ·exact h i j hij z
 ·have:j=n:=by omega
  subst this;rcases Nat.lt_or_ge i (j-1) with y|y
  ·exact o.tr _ _ _ (h i (j-1) y (by omega)) e
  ·have:i=j-1:=by omega
   subst this;exact e
theorem Hf(o:Ord N lt)(P:Pm N p):∀(f n:Nat),1<=n->n+f<=N->Up lt p n->n<=run lt (kas_asc p f n)/\run lt (kas_asc p f n)<=n+f/\Up lt p (run lt (kas_asc p f n))/\(run lt (kas_asc p f n)<n+f->lt (p.getD (run lt (kas_asc p f n)) 0) (p.getD (run lt (kas_asc p f n)-1) 0)=true)
 |0,n,h1,h2,u=>⟨AAF _,AAF _,u,λz=>absurd z (AA1 _)⟩
 |f+1,n,h1,h2,u=>by
  unfold kas_asc;show n<=run lt (if lt (p.getD n 0) (p.getD (n-1) 0)=true then .ret n else kas_asc p f (n+1))/\_;cases e:lt (p.getD n 0) (p.getD (n-1) 0) with
  |true=>
   rw[show run lt (KasT.ask (p.getD n 0) (p.getD (n-1) 0) λc=>if c=true then .ret n else kas_asc p f (n+1))=n from by show run lt (if lt (p.getD n 0) (p.getD (n-1) 0)=true then KasT.ret n else kas_asc p f (n+1))=n;rw[e];rfl];exact⟨AAF _,by omega,u,λ_=>e⟩
  |false=>
   rw[show run lt (KasT.ask (p.getD n 0) (p.getD (n-1) 0) λc=>if c=true then .ret n else kas_asc p f (n+1))=run lt (kas_asc p f (n+1)) from by show run lt (if lt (p.getD n 0) (p.getD (n-1) 0)=true then KasT.ret n else kas_asc p f (n+1))=_;rw[e];rfl];rw[if_neg (by decide)];obtain⟨a,b,c,d⟩:=Hf o P f (n+1) (by omega) (by omega) (u.more o h1 (P.not o (by omega) (by omega) (by omega) e));exact⟨by omega,by omega,c,λz=>d (by omega)⟩
def Dn(lt:Nat->Nat->Bool)(p:Array Nat)(n:Nat):Prop:=∀i j,i<j->j<n->lt (p.getD j 0) (p.getD i 0)=true
theorem Ip(o:Ord N lt)(P:Pm N p):∀(f n:Nat),1<=n->n+f<=N->Dn lt p n->∃m,run lt (kas_desc f p n 0)=(p,m,0)/\n<=m/\m<=n+f/\Dn lt p m
 |0,n,h1,h2,u=>⟨n,rfl,AAF _,AAF _,u⟩
 |f+1,n,h1,h2,u=>by
  cases e:lt (p.getD n 0) (p.getD (n-1) 0) with
  |true=>
   have u':Dn lt p (n+1):=λi j hij hj=>by
    rcases Nat.lt_or_ge j n with z|z
    ·exact u i j hij z
    ·have:j=n:=by omega
     subst this;rcases Nat.lt_or_ge i (j-1) with y|y
     ·exact o.tr _ _ _ e (u i (j-1) y (by omega))
     ·have:i=j-1:=by omega
      subst this;exact e
   obtain⟨m,a,b,c,d⟩:=Ip o P f (n+1) (by omega) (by omega) u';refine⟨m,?_,by omega,by omega,d⟩;unfold kas_desc;show run lt (if lt (p.getD n 0) (p.getD (n-1) 0)=true then _ else _)=_;rw[e,if_pos rfl,if_neg (by omega)];exact a
  |false=>
   have e2:=P.not o (i:=n) (j:=n-1) (by omega) (by omega) (by omega) e;refine⟨n,?_,AAF _,by omega,u⟩;unfold kas_desc;show run lt (if lt (p.getD n 0) (p.getD (n-1) 0)=true then _ else KasT.ask (p.getD (n-1) 0) (p.getD n 0) _)=_;rw[e,if_neg (by decide)];show run lt (if lt (p.getD (n-1) 0) (p.getD n 0)=true then _ else _)=_;rw[e2];rfl
theorem Ha{xs ys:Array Nat}(h:xs[i]?=ys[j]?):xs.getD i 0=ys.getD j 0:=by
 rw[Array.getD_eq_getD_getElem?,Array.getD_eq_getD_getElem?,h]
theorem IE(P:Pm N p)(i j:Nat):Pm N (kas_rev p i j):=(mirror_perm p i j _).toList.trans P
theorem Xp(P:Pm N p){m:Nat}(hm:m<=N)(d:Dn lt p m):Up lt (kas_rev p 0 m) m:=λi j hij hj=>by
 have hs:=P.size;have g:∀k,k<m->(kas_rev p 0 m).getD k 0=p.getD (m-1-k) 0:=λk hk=>Ha (by
  unfold kas_rev;rw[getElem?_mirror_all (by omega) k,if_pos ⟨AAk _,hk⟩];congr 1;omega)
 rw[g i (by omega),g j hj];exact d (m-1-j) (m-1-i) (by omega) (by omega)
theorem KK(o:Ord N lt)(P:Pm N p)(hN:2<=N):∃n p',run lt (kas_count N p)=(n,p')/\1<=n/\n<=N/\Pm N p'/\Up lt p' n:=by
 have u1:Up lt p 1:=λi j hij hj=>by omega
 obtain⟨a,b,c,d⟩:=Hf o P (N-1) 1 (AAF _) (by omega) u1;generalize hm:run lt (kas_asc p (N-1) 1)=m at a b c d;unfold kas_count;rw[DW,hm];by_cases e:m=N
 ·rw[if_pos (by simp[e])];exact⟨m,p,rfl,a,by omega,P,c⟩
 ·rw[if_neg (by simp[e])];by_cases h1:m > 1
  ·rw[if_pos h1];have z:lt (p.getD 0 0) (p.getD (m-1) 0)=true:=c 0 (m-1) (by omega) (by omega);refine⟨m,p,?_,a,by omega,P,c⟩;show run lt (if lt (p.getD 0 0) (p.getD (m-1) 0)=true then _ else _)=_;rw[z];rfl
  ·rw[if_neg h1];have m1:m=1:=by omega
   subst m1;have dd:=d (by omega);have dn:Dn lt p 2:=λi j hij hj=>by
    have:i=0/\j=1:=by omega
    obtain⟨rfl,rfl⟩:=this;exact dd
   obtain⟨m,r,b1,b2,d2⟩:=Ip o P (N-2) 2 (by omega) (by omega) dn;have P':=IE P 0 m;have u':=Xp P (m:=m) (by omega) d2;obtain⟨a3,b3,c3,_⟩:=Hf o P' (N-m) m (by omega) (by omega) u';refine⟨run lt (kas_asc (kas_rev p 0 m) (N-m) m),kas_rev p 0 m,?_,by omega,by omega,P',c3⟩;unfold kas_descPart;rw[DW,show N-(1+1)=N-2 from rfl,show 1+1=2 from rfl,r];show run lt (if (0:Nat) > 0 then _ else kas_tail3 m N p)=_;rw[if_neg (by omega)];unfold kas_tail3;rw[DW];rfl
theorem Gg(o:Ord N lt)(P:Pm N p)(hk:k<N)(u:Up lt p k):∀(f l r:Nat),l<=r->r<=k->r-l<=f->(∀i,i<l->lt (p.getD i 0) (p.getD k 0)=true)->(∀i,r<=i->i<k->lt (p.getD k 0) (p.getD i 0)=true)->
  ∃m,run lt (kas_place p k f l r)=m/\m<=k/\(∀i,i<m->lt (p.getD i 0) (p.getD k 0)=true)/\(∀i,m<=i->i<k->lt (p.getD k 0) (p.getD i 0)=true)
 |0,l,r,h1,h2,h3,a,b=>⟨l,rfl,by omega,a,λi hi=>b i (by omega)⟩
 |f+1,l,r,h1,h2,h3,a,b=>by
  unfold kas_place;by_cases e:l ≥ r
  ·rw[if_pos e];exact⟨l,rfl,by omega,a,λi hi=>b i (by omega)⟩
  ·rw[if_neg e];have hmid:l<=(l+r) / 2/\(l+r) / 2<r:=by omega
   show ∃m,run lt (if lt (p.getD k 0) (p.getD ((l+r) / 2) 0)=true then _ else _)=m/\_;cases c:lt (p.getD k 0) (p.getD ((l+r) / 2) 0) with
   |true=>
    rw[if_pos rfl];refine Gg o P hk u f l ((l+r) / 2) (by omega) (by omega) (by omega) a λi hi hik=>?_;rcases Nat.lt_or_ge ((l+r) / 2) i with z|z
    ·exact o.tr _ _ _ c (u _ _ z hik)
    ·have:i=(l+r) / 2:=by omega
     subst this;exact c
   |false=>
    rw[if_neg (by decide)];have c':=P.not o hk (show (l+r) / 2<N by omega) (by omega) c;refine Gg o P hk u f ((l+r) / 2+1) r (by omega) (by omega) (by omega) (λi hi=>?_) b;rcases Nat.lt_or_ge i ((l+r) / 2) with z|z
    ·exact o.tr _ _ _ (u _ _ z (by omega)) c'
    ·have:i=(l+r) / 2:=by omega
     subst this;exact c'
theorem Pn(o:Ord N lt):∀(f k:Nat) (p:Array Nat),Pm N p->1<=k->k+f=N->Up lt p k->Pm N (run lt (kas_bin f p k))/\Up lt (run lt (kas_bin f p k)) N
 |0,k,p,P,h1,h2,u=>⟨P,(show k=N by omega) ▸ u⟩
 |f+1,k,p,P,h1,h2,u=>by
  unfold kas_bin;rw[DW];obtain⟨m,e,hm,a,b⟩:=Gg o P (k:=k) (by omega) u k 0 k (AAk _) (AAF _) (by omega) (λi hi=>by omega) (λi h1 h2=>by omega);rw[e];have hs:=P.size;have g:∀j,(bubble p k (k-m)).getD j 0=if j=m then p.getD k 0 else if m<j/\j<=k then p.getD (j-1) 0 else p.getD j 0:=λj=>by
   have:=getElem?_bubble (xs:=p) (src:=k) (by omega) (k-m) (by omega) j;rw[show k-(k-m)=m by omega] at this;by_cases z:j=m
   ·rw[if_pos z] at this ⊢;exact Ha this
   ·rw[if_neg z] at this ⊢;by_cases y:m<j/\j<=k
    ·rw[if_pos y] at this ⊢;exact Ha this
    ·rw[if_neg y] at this ⊢;exact Ha this
  refine Pn o f (k+1) _ ((bubble_perm p k _).toList.trans P) (by omega) (by omega) λi j hij hj=>?_;by_cases ji:j=m
  ·have gi:(bubble p k (k-m)).getD i 0=p.getD i 0:=by rw[g i,if_neg (by omega),if_neg (by omega)]
   have gj:(bubble p k (k-m)).getD j 0=p.getD k 0:=by rw[g j,if_pos ji]
   rw[gi,gj];exact a i (by omega)
  ·by_cases jj:m<j
   ·have gj:(bubble p k (k-m)).getD j 0=p.getD (j-1) 0:=by rw[g j,if_neg ji,if_pos ⟨jj,by omega⟩]
    rw[gj];by_cases ii:i=m
    ·have gi:(bubble p k (k-m)).getD i 0=p.getD k 0:=by rw[g i,if_pos ii]
     rw[gi];exact b (j-1) (by omega) (by omega)
    ·by_cases i2:m<i
     ·have gi:(bubble p k (k-m)).getD i 0=p.getD (i-1) 0:=by rw[g i,if_neg ii,if_pos ⟨i2,by omega⟩]
      rw[gi];exact u (i-1) (j-1) (by omega) (by omega)
     ·have gi:(bubble p k (k-m)).getD i 0=p.getD i 0:=by rw[g i,if_neg ii,if_neg (by omega)]
      rw[gi];exact u i (j-1) (by omega) (by omega)
   ·have gi:(bubble p k (k-m)).getD i 0=p.getD i 0:=by rw[g i,if_neg (by omega),if_neg (by omega)]
    have gj:(bubble p k (k-m)).getD j 0=p.getD j 0:=by rw[g j,if_neg ji,if_neg (by omega)]
    rw[gi,gj];exact u i j hij (by omega)
theorem sort_run(o:Ord N lt)(hN:2<=N):Pm N (run lt (kas_sort N))/\Up lt (run lt (kas_sort N)) N:=by
 unfold kas_sort;rw[DW];obtain⟨n,p',e,h1,h2,P,u⟩:=KK (p:=List.toArray (List.range N)) o (List.Perm.refl _) hN;rw[e];by_cases z:n<N
 ·rw[if_pos z];rw[show max n 1=n by omega];exact Pn o (N-n) n p' P h1 (by omega) u
 ·rw[if_neg z];have:n=N:=by omega
  subst this;exact⟨P,u⟩
end
noncomputable def Bd{α:Type}(N:Nat)(lt:Nat->Nat->Bool):KasT α->Prop
 | .ret _=>True
 | .ask i j k=>i<N/\j<N/\Bd N lt (k (lt i j))
theorem wp_of(hc:∀i j (C:Bool->Shared->Prop),i<N->j<N->C (lt i j) s->cmp i j C s):∀t:KasT α,Bd N lt t->Q (run lt t) s->t.kasWp cmp Q s
 | .ret _,_,h=>h
 | .ask i j k,b,h=>hc i j _ b.1 b.2.1 (wp_of hc (k (lt i j)) b.2.2 h)
theorem FA:∀t:KasT α,Bd N lt t->Bd N lt (f (run lt t))->Bd N lt (t.bind f)
 | .ret _,_,h=>h
 | .ask i j k,b,h=>⟨b.1,b.2.1,FA (k (lt i j)) b.2.2 h⟩
section
variable{N:Nat}{lt:Nat->Nat->Bool}{p:Array Nat}
theorem OJ(P:Pm N p):∀(f n:Nat),1<=n->n+f<=N->Bd N lt (kas_asc p f n)
 |0,n,h1,h2=>trivial
 |f+1,n,h1,h2=>by
  refine⟨Pm.bd P (by omega),Pm.bd P (by omega),?_⟩;dsimp only;split
  ·trivial
  ·exact OJ P f (n+1) (by omega) (by omega)
theorem Hb:∀(f n q:Nat) {p:Array Nat},Pm N p->1<=n->n+f<=N->Bd N lt (kas_desc f p n q)
 |0,n,q,p,P,h1,h2=>trivial
 |f+1,n,q,p,P,h1,h2=>by
  refine⟨Pm.bd P (by omega),Pm.bd P (by omega),?_⟩;dsimp only;split
  ·split
   ·exact Hb f (n+1) 0 (IE P _ _) (by omega) (by omega)
   ·exact Hb f (n+1) 0 P (by omega) (by omega)
  ·refine⟨Pm.bd P (by omega),Pm.bd P (by omega),?_⟩;dsimp only;split
   ·trivial
   ·exact Hb f (n+1) (q+1) P (by omega) (by omega)
theorem UH(o:Ord N lt)(P:Pm N p)(hN:2<=N):Bd N lt (kas_count N p):=by
 have u1:Up lt p 1:=λi j hij hj=>by omega
 obtain⟨a,b,c,d⟩:=Hf o P (N-1) 1 (AAF _) (by omega) u1;unfold kas_count;refine FA _ (OJ P (N-1) 1 (AAF _) (by omega)) ?_;generalize hm:run lt (kas_asc p (N-1) 1)=m at a b c d;by_cases e:m=N
 ·rw[if_pos (by simp[e])];trivial
 ·rw[if_neg (by simp[e])];by_cases h1:m > 1
  ·rw[if_pos h1];have z:lt (p.getD 0 0) (p.getD (m-1) 0)=true:=c 0 (m-1) (by omega) (by omega);refine⟨Pm.bd P (by omega),Pm.bd P (by omega),?_⟩;rw[z];trivial
  ·rw[if_neg h1];have m1:m=1:=by omega
   subst m1;have dd:=d (by omega);have dn:Dn lt p 2:=λi j hij hj=>by
    have:i=0/\j=1:=by omega
    obtain⟨rfl,rfl⟩:=this;exact dd
   obtain⟨m,r,b1,b2,d2⟩:=Ip o P (N-2) 2 (by omega) (by omega) dn;unfold kas_descPart;refine FA _ (Hb (N-(1+1)) (1+1) 0 P (by omega) (by omega)) ?_;rw[show N-(1+1)=N-2 from rfl,show 1+1=2 from rfl,r];show Bd N lt (if (0:Nat) > 0 then _ else kas_tail3 m N p);rw[if_neg (by omega)];unfold kas_tail3;exact FA _ (OJ (IE P 0 m) (N-m) m (by omega) (by omega)) trivial
theorem II(P:Pm N p)(hk:k<N):∀(f l r:Nat),r<=k->Bd N lt (kas_place p k f l r)
 |0,l,r,h=>trivial
 |f+1,l,r,h=>by
  unfold kas_place;by_cases e:l ≥ r
  ·rw[if_pos e];trivial
  ·rw[if_neg e];refine⟨Pm.bd P hk,Pm.bd P (by omega),?_⟩;dsimp only;split
   ·exact II P hk f l ((l+r) / 2) (by omega)
   ·exact II P hk f ((l+r) / 2+1) r h
theorem UV:∀(f k:Nat) (p:Array Nat),Pm N p->k+f=N->Bd N lt (kas_bin f p k)
 |0,k,p,P,h=>trivial
 |f+1,k,p,P,h=>by
  unfold kas_bin;exact FA _ (II P (by omega) k 0 k (AAF _)) (UV f (k+1) _ ((bubble_perm p k _).toList.trans P) (by omega))
theorem sort_bd(o:Ord N lt)(hN:2<=N):Bd N lt (kas_sort N):=by
 have P0:Pm N (List.toArray (List.range N)):=List.Perm.refl _;unfold kas_sort;refine FA _ (UH o P0 hN) ?_;obtain⟨n,p',e,h1,h2,P,u⟩:=KK (p:=List.toArray (List.range N)) o P0 hN;rw[e];by_cases z:n<N
 ·rw[if_pos z];exact UV _ _ p' P (by omega)
 ·rw[if_neg z];trivial
end
end Sq
namespace Nk
open PySem PySem.Spec PyProof.Rows HT
noncomputable def Qz(c:Cs):List Int:=c.1::c.2.1::c.2.2
noncomputable def cLt(a b:Cs):Bool:=CL (Qz a) (Qz b)
theorem Me(h:Qz a=Qz b):a=b:=by
 obtain⟨a1,a2,a3⟩:=a;obtain⟨b1,b2,b3⟩:=b;simp only[Qz,List.cons.injEq] at h;rw[h.1,h.2.1,h.2.2]
theorem Hd(h:csK a=csK b):a=b:=by
 obtain⟨a1,a2,a3⟩:=a;obtain⟨b1,b2,b3⟩:=b;unfold csK at h;simp only[NK.tup.injEq,List.cons.injEq,NK.int.injEq,and_true] at h;obtain⟨h1,h2,h3⟩:=h;have:a3=b3:=by
  have inj:∀(x y:List Int),x.map NK.int=y.map NK.int->x=y:=by
   intro x
   induction x with
   |nil=>intro y h;cases y with
    |nil=>rfl
    |cons _ _=>cases h
   |cons u x ih=>intro y h;cases y with
    |nil=>cases h
    |cons v y=>
     rw[AAX,AAX,List.cons.injEq,NK.int.injEq] at h;rw[h.1,ih y h.2]
  exact inj a3 b3 h3
 rw[h1,h2,this]
theorem HX:∀a:List Int,CL a a=false
 |[]=>rfl
 |x::a=>by rw[Bi,if_pos rfl];exact HX a
theorem K5:∀{a b:List Int},a≠b->CL a b=true∨CL b a=true
 |[],[],h=>absurd rfl h
 |[],_::_,_=>.inl rfl
 |_::_,[],_=>.inr rfl
 |x::a,y::b,h=>by
  by_cases e:x=y
  ·subst e;rw[Bi,Bi,if_pos rfl,if_pos rfl];exact K5 λz=>h (by rw[z])
  ·rw[Bi,Bi,if_neg e,if_neg (Ne.symm e)];rcases Int.lt_or_gt_of_ne e with z|z
   ·exact .inl (AAP z)
   ·exact .inr (AAP z)
theorem Nv:∀{a b c:List Int},CL a b=true->CL b c=true->CL a c=true
 |[],[],_,h,_=>by cases h
 |[],_::_,[],_,h=>by cases h
 |[],_::_,_::_,_,_=>rfl
 |_::_,[],_,h,_=>by cases h
 |_::_,_::_,[],_,h=>by cases h
 |x::a,y::b,z::c,h,g=>by
  rw[Bi] at h g ⊢;by_cases e:x=y
  ·subst e;rw[if_pos rfl] at h;by_cases e2:x=z
   ·subst e2;rw[if_pos rfl] at g ⊢;exact Nv h g
   ·rw[if_neg e2] at g ⊢;exact g
  ·rw[if_neg e] at h;have h':=of_decide_eq_true h;by_cases e2:y=z
   ·subst e2;rw[if_neg e];exact h
   ·rw[if_neg e2] at g;have g':=of_decide_eq_true g;rw[if_neg (by omega)];exact AAP (by omega)
theorem K9:∀{l:List Int} {vs:List Value},Ats h (l.map NK.int) vs->IntsAre vs l
 |[],_,a=>by unfold List.map Ats at a;subst a;exact .nil
 |i::l,_,a=>by
  unfold List.map Ats at a;obtain⟨v,vs',rfl,a1,a2⟩:=a;unfold At at a1;obtain⟨t,rfl⟩:=a1;exact .cons i t (K9 a2)
theorem Iw(x:At h (csK c) v):∃a o items n t u q,v=.ref a/\h.get? a=some o/\o.cls=.type "tuple" /\ o.data=.seq items n/\items.toList=[.int c.1 t,.int c.2.1 u,q]/\At h (.tup (c.2.2.map NK.int)) q:=by
 unfold csK At at x;obtain⟨a,o,items,n,rfl,h1,h2,h3,h4⟩:=x;unfold Ats at h4;obtain⟨v1,r1,e1,a1,h4⟩:=h4;unfold Ats at h4;obtain⟨v2,r2,e2,a2,h4⟩:=h4;unfold Ats at h4;obtain⟨v3,r3,e3,a3,h4⟩:=h4;unfold Ats at h4;unfold At at a1 a2;obtain⟨t,rfl⟩:=a1;obtain⟨u,rfl⟩:=a2;subst h4 e3 e2;exact⟨a,o,items,n,t,u,v3,rfl,h1,h2,h3,e1,a3⟩
theorem KJ:∀l:List Int,NK.deeps (l.map NK.int)=0
 |[]=>rfl
 |i::l=>by show max 0 (NK.deeps (l.map NK.int))=0;rw[KJ l];rfl
section
variable{prog:Program}{w:World}{A:Around}{E:Value->Shared->Prop}{s:Shared}
theorem aT(hu:A.units+8<cLine)(hx:At s.heap (csK a) x)(hy:At s.heap (csK b) y)(q:Q (cLt a b) s):wpAny (model prog w) A (keyLt' (tuples' true) x y) Q E s:=by
 obtain⟨x,ox,xs,n,t,u,p,rfl,h1,h2,h3,h4,h5⟩:=Iw hx;obtain⟨y,oy,ys,n',t',u',p',rfl,g1,g2,g3,g4,g5⟩:=Iw hy;refine PySem.W.kat_lt h1 h3 g1 g3 ?_;rw[h4,g4];unfold cLt Qz at q;rw[Bi] at q;refine PySem.W.kat_cons (SeqAt.EqAt.int_int a.1 t b.1 t' prog w _ _ ?_);by_cases e1:a.1=b.1
 ·rw[beq_iff_eq.mpr e1];rw[if_pos e1,Bi] at q;refine PySem.W.kat_yes (PySem.W.kat_cons (SeqAt.EqAt.int_int a.2.1 u b.2.1 u' prog w _ _ ?_));by_cases e2:a.2.1=b.2.1
  ·rw[beq_iff_eq.mpr e2];rw[if_pos e2] at q;refine PySem.W.kat_yes (PySem.W.kat_cons (At.eq (by show A.units+(NK.deeps (a.2.2.map NK.int)+1)<cLine;rw[KJ];omega) h5 g5 prog w _ _ ?_));by_cases e3:a.2.2=b.2.2
   ·have hd:decide (NK.tup (a.2.2.map NK.int)=NK.tup (b.2.2.map NK.int))=true:=AAP (by rw[e3]);rw[hd];refine PySem.W.kat_yes (PySem.W.kat_nil ?_);rw[e3,HX] at q;have z1:xs.size=3:=by rw[←Array.length_toList,h4];rfl
    have z2:ys.size=3:=by rw[←Array.length_toList,g4];rfl
    rw[z1,z2];exact q
   ·have hne:¬(NK.tup (a.2.2.map NK.int)=NK.tup (b.2.2.map NK.int)):=λz=>e3 (by
     have:=Hd (a:=(0,0,a.2.2)) (b:=(0,0,b.2.2)) (by unfold csK;rw[z]);exact(Prod.mk.inj (Prod.mk.inj this).2).2)
    rw[AAO hne];refine PySem.W.kat_no ?_;show wpAny _ _ (oneLt' false p p') Q _ s;unfold At at h5 g5;obtain⟨z,o1,i1,m1,rfl,k1,k2,k3,k4⟩:=h5;obtain⟨z',o2,i2,m2,rfl,k1',k2',k3',k4'⟩:=g5;exact PySem.W.kat_one _ _ (Nr ⟨o1,k1,k2,m1,k3⟩ ⟨o2,k1',k2',m2,k3'⟩ (K9 k4) (K9 k4') (by omega) q)
  ·rw[AAf.mpr e2];rw[if_neg e2] at q;refine PySem.W.kat_no ?_;exact PySem.W.kat_one _ _ (lt_int q)
 ·rw[AAf.mpr e1];rw[if_neg e1] at q;refine PySem.W.kat_no ?_;exact oneLt_int q
end
theorem Ats.get:∀{ks:List NK} {vs:List Value},Ats h ks vs->∀(i:Nat) (k:NK),ks[i]?=some k->∃v,vs[i]?=some v/\At h k v
 |[],_,_,i,k,e=>by simp at e
 |k0::ks,_,a,i,k,e=>by
  unfold Ats at a;obtain⟨v,vs',rfl,a1,a2⟩:=a;cases i with
  |zero=>simp at e;subst e;exact⟨v,rfl,a1⟩
  |succ i=>
   obtain⟨u,e1,e2⟩:=Ats.get a2 i k (by simpa using e);exact⟨u,by simpa using e1,e2⟩
theorem Ats.of_get:∀{ks:List NK} {vs:List Value},vs.length=ks.length->(∀(i:Nat) (k:NK) (v:Value),ks[i]?=some k->vs[i]?=some v->At h k v)->Ats h ks vs
 |[],[],_,_=>by unfold Ats;rfl
 |[],_::_,e,_=>by simp at e
 |_::_,[],e,_=>by simp at e
 |k::ks,v::vs,e,f=>by
  unfold Ats;exact⟨v,vs,rfl,f 0 k v rfl rfl,Ats.of_get (by simpa using e) λi k' v' h1 h2=>f (i+1) k' v' (by simpa using h1) (by simpa using h2)⟩
noncomputable abbrev G0:Cs:=(0,0,[])
noncomputable def JR(ks:List Cs)(i j:Nat):Bool:=cLt (ks.getD i G0) (ks.getD j G0)
theorem YF(nd:ks.Nodup):Sq.Ord ks.length (JR ks) where
 tot:=λi j hi hj hne=>K5 λz=>hne (by
  have e:=Me z;have e1:ks.getD i G0=ks[i]:=by simp[hi]
  have e2:ks.getD j G0=ks[j]:=by simp[hj]
  rw[e1,e2] at e;exact(List.getElem_inj nd).mp e)
 tr:=λi j k h g=>Nv h g
 irr:=λi=>HX _
theorem QC(P:Sq.Pm ks.length p)(u:Sq.Up (JR ks) p ks.length):(p.toList.map λi=>ks.getD i G0).Perm ks/\(p.toList.map λi=>ks.getD i G0).Pairwise λx y=>cLt x y=true:=by
 constructor
 ·have h1:=P.map λi=>ks.getD i G0;have h2:(List.range ks.length).map (λi=>ks.getD i G0)=ks:=by
   apply List.ext_getElem
   ·simp
   ·intro i h1 h2;simp at h1;simp[h1]
  rw[h2] at h1;exact h1
 ·have hs:=P.size;rw[List.pairwise_map,List.pairwise_iff_getElem];intro i j hi hj hij;have hi':i<p.size:=by simpa using hi
  have hj':j<p.size:=by simpa using hj
  have:=u i j hij (by omega);have e1:p.getD i 0=p.toList[i]:=by simp[Array.getD,hi']
  have e2:p.getD j 0=p.toList[j]:=by simp[Array.getD,hj']
  rw[e1,e2] at this;exact this
section
variable{prog:Program}{w:World}{A:Around}{E:Value->Shared->Prop}{s:Shared}
theorem Bj:∀{ks:List Cs} {vs:List Value},Ats s.heap (ks.map csK) vs->∃fs:List Value,fs.length=vs.length/\PySem.W.KatTups s.heap vs fs/\∀v∈fs,∃i t,v=.int i t
 |[],_,a=>by
  unfold List.map Ats at a;subst a;exact⟨[],rfl,trivial,λv h=>by cases h⟩
 |k::ks,_,a=>by
  unfold List.map Ats at a;obtain⟨v,vs',rfl,a1,a2⟩:=a;obtain⟨fs,e,t,f⟩:=Bj a2;obtain⟨x,o,items,n,t1,u,q,rfl,h1,h2,h3,h4,_⟩:=Iw a1;refine⟨.int k.1 t1::fs,by simp[e],PySem.W.KatTups.cons h1 h2 h3 ?_ t,λw hw=>(AAJ.mp hw).elim (λz=>⟨_,_,z⟩) (f w)⟩;rw[←Array.getElem?_toList,h4];rfl
theorem U2(hu:A.units+8<cLine)(ho:s.heap.get? a=some (seqObj "list" vs.toArray n))(hk:Ats s.heap (ks.map csK) vs)(nd:ks.Nodup)(h64:vs.length<64)
  (h:∀(out:List Value) (ks':List Cs),Ats s.heap (ks'.map csK) out->ks'.Perm ks->ks'.Pairwise (λx y=>cLt x y=true)->(∀v∈out,v∈vs)->P (.done (.ret .none)) { s with heap:=sortedHeap s.heap a vs out.toArray }) :
  wpAny (model prog w) A (Builtin.«list.sort» ⟨[.ref a],[]⟩) P E s:=by
 have hlen:vs.length=ks.length:=by have:=hk.len;simpa using this
 have ha:a<s.heap.objs.size:=Heap.lt_size ho;have ho1:=get?_update_seq ho (λ_=>(#[]:Array Value));rw[list_sort_plain];refine AAA (listItems_at ho rfl (AAA (listUpdate_at ho rfl ?_ (by rw[List.size_toArray,sizeLine_eq];omega) (AAk _))));refine AAA (seqEpoch_at ho1 rfl (AAA (wpAny_newTuple ?_ (by show vs.length<=_;rw[sizeLine_eq];omega))));refine AAA (wpAny_newList ?_ (AAk _));refine AAo ?_;show wpAny (model prog w) A _ P E { s with heap:=((s.heap.update a (Obj.mapSeq λ_=>(#[]:Array Value))).push (seqObj "tuple" vs.toArray 0)).push (seqObj "list" #[] 0) };generalize hG:((s.heap.update a (Obj.mapSeq λ_=>(#[]:Array Value))).push (seqObj "tuple" vs.toArray 0)).push (seqObj "list" #[] 0)=G;have ho6:G.get? a=(s.heap.update a (Obj.mapSeq λ_=>(#[]:Array Value))).get? a:=by
  rw[←hG,Heap.get?_push_ne _ _ _ (by rw[size_push',Heap.size_update];exact AAe (AAh ha)),Heap.get?_push_ne _ _ _ (by rw[Heap.size_update];exact AAe ha)]
 rw[ho1] at ho6;have kp:∀b o items m,s.heap.get? b=some o->o.cls=.type "tuple" -> o.data=.seq items m->G.get? b=some o:=λb o items m e c _=>by
  have hb:b<s.heap.objs.size:=Heap.lt_size e;have hne:b≠a:=λz=>by
   subst z;rw[ho] at e;cases e;exact absurd (show (Value.type "list")=.type "tuple" from c) (by decide)
  rw[←hG,Heap.get?_push_ne _ _ _ (by rw[size_push',Heap.size_update];exact AAe (AAh hb)),Heap.get?_push_ne _ _ _ (by rw[Heap.size_update];exact AAe hb),Heap.get?_update_ne _ _ _ _ hne];exact e
 have hkG:Ats G (ks.map csK) vs:=hk.kept kp;have fin:∀out:List Value,out.length=vs.length->(∀ks':List Cs,Ats s.heap (ks'.map csK) out->True)->sortedHeap s.heap a vs out.toArray=G.update a (Obj.mapSeq λ_=>out.toArray):=λout _ _=>by rw[←hG];rfl
 dsimp only;by_cases h2:vs.toArray.size<2
 ·rw[if_pos h2,if_pos h2];have h2':vs.length<2:=by simpa using h2
  refine AAA (AAB ?_);rw[StateT.run_pure];refine AAA (AAB ?_);dsimp only;have ex:(arrOf (SortSt.mk' general' (vs.toArray.zip vs.toArray) #[] 7 none)).map (·.2)=vs.toArray:=by
   show (vs.toArray.zip vs.toArray).map (·.2)=vs.toArray;apply Array.toList_inj.mp;rw[Array.toList_map,Array.toList_zip];exact List.map_snd_zip (by simp)
  refine AAA (seqEpoch_at ho6 rfl (AAA (listUpdate_at ho6 rfl ?_ (AAk _) (by rw[ex,List.size_toArray,sizeLine_eq];omega))));simp only[bne_self_eq_false,Bool.false_eq_true,if_false];have:=h vs ks hk (List.Perm.refl _) (by
   match ks,hlen with
   |[],_=>exact List.Pairwise.nil
   |[x],_=>exact List.pairwise_singleton _ _
   |_::_::_,e=>simp at e;omega) (λ_ z=>z)
  rw[fin vs rfl λ_ _=>trivial] at this;refine AAB ?_;rw[ex];exact this
 ·rw[if_neg h2,if_neg h2];have h2':2<=vs.length:=by simpa using h2
  obtain⟨fs,fl,ft,fi⟩:=Bj (s:={ s with heap:=G }) hkG;refine AAA (PySem.W.kat_kind (T:=.type "int") ft (by omega) (λv hv=>by
   obtain⟨i,t,rfl⟩:=fi v hv;exact PySem.W.Looks.of_pure rfl) rfl ?_)
  have ord:=YF nd;have hN:2<=ks.length:=by omega
  obtain⟨pm,up⟩:=Sq.sort_run ord hN;have ask:(PySem.W.kas_sort vs.length).kasWp (PySem.W.kas_ask prog w A (tuples' (Value.type "int" != Value.type "tuple")) vs) (λp s''=>p=Sq.run (JR ks) (PySem.W.kas_sort ks.length)/\s''={ s with heap:=G }) { s with heap:=G }:=by
   rw[hlen];refine Sq.wp_of (N:=ks.length) (lt:=JR ks) (λi j C hi hj hC=>?_) _ (Sq.sort_bd ord hN) ⟨rfl,rfl⟩;obtain⟨v,e1,a1⟩:=hkG.get i (csK ks[i]) (by simp[hi]);obtain⟨v',e2,a2⟩:=hkG.get j (csK ks[j]) (by simp[hj]);unfold PySem.W.kas_ask;have g1:vs.getD i Value.none=v:=by rw[List.getD_eq_getElem?_getD,e1];rfl
   have g2:vs.getD j Value.none=v':=by rw[List.getD_eq_getElem?_getD,e2];rfl
   rw[g1,g2];refine aT (s:={ s with heap:=G }) hu a1 a2 ?_;unfold JR at hC;have k1:ks.getD i G0=ks[i]:=by simp[hi]
   have k2:ks.getD j G0=ks[j]:=by simp[hj]
   rw[k1,k2] at hC;exact hC
  refine AAA (AAj (PySem.W.kat_run (ks:=vs) (Q:=λst' s'=>(arrOf st').map (·.2)=List.toArray ((Sq.run (JR ks) (PySem.W.kas_sort ks.length)).toList.map λi=>vs.getD i Value.none)/\failedOf st'=none/\s'={ s with heap:=G }) rfl h2' h64 (λp' st' s' b1 b2 b3 b4=>⟨by rw[PySem.W.kat_snds rfl b2,b4.1],b3,b4.2⟩) ask) ?_ λ_ _ e=>e);rintro⟨⟨⟩,st'⟩ s' ⟨har,hf,rfl⟩;dsimp only;have hsz:((arrOf st').map (·.2)).size=vs.length:=by rw[har,List.size_toArray,AAG,Array.length_toList,pm.size,hlen]
  refine AAA (seqEpoch_at ho6 rfl (AAA (listUpdate_at ho6 rfl ?_ (AAk _) (by rw[hsz,sizeLine_eq];omega))));rw[hf];simp only[bne_self_eq_false,Bool.false_eq_true,if_false];obtain⟨s1,s2⟩:=QC pm up;have oa:Ats s.heap ((((Sq.run (JR ks) (PySem.W.kas_sort ks.length)).toList.map λi=>ks.getD i G0)).map csK) ((Sq.run (JR ks) (PySem.W.kas_sort ks.length)).toList.map λi=>vs.getD i Value.none):=by
   refine Ats.of_get (by simp) λi k v e1 e2=>?_;rw[AAW,AAW] at e1;rw[AAW] at e2;cases e:(Sq.run (JR ks) (PySem.W.kas_sort ks.length)).toList[i]? with
   |none=>rw[e] at e2;cases e2
   |some j=>
    rw[e] at e1 e2;cases e1;cases e2;have hj:j<ks.length:=List.mem_range.mp (pm.mem_iff.mp (AAV e));obtain⟨v,g1,g2⟩:=hk.get j (csK ks[j]) (by simp[hj]);show At s.heap (csK (ks.getD j G0)) (vs.getD j Value.none);rw[show ks.getD j G0=ks[j] by simp[hj],List.getD_eq_getElem?_getD,g1];exact g2
  have sub:∀v∈(Sq.run (JR ks) (PySem.W.kas_sort ks.length)).toList.map (λi=>vs.getD i Value.none),v∈vs:=λv hv=>by
   obtain⟨j,hj,rfl⟩:=AAM.mp hv;have hj:j<vs.length:=by rw[hlen];exact List.mem_range.mp (pm.mem_iff.mp hj)
   rw[List.getD_eq_getElem?_getD,AAt hj];exact List.getElem_mem hj
  have:=h _ _ oa s1 s2 sub;rw[fin _ (by rw[AAG,Array.length_toList,pm.size,hlen]) λ_ _=>trivial,←har] at this;exact AAB this
end
end Nk
namespace Hs
open PySem PySem.SetTable
end Hs
namespace Hs
open PySem PySem.SetTable Ht
end Hs
set_option maxHeartbeats 4000000
namespace Hs
open PySem PySem.Spec PyProof.Rows Nk
end Hs
set_option maxHeartbeats 4000000
namespace Hs
open PySem PySem.Spec PyProof.Rows Nk PySem.SetTable Ht
end Hs
set_option maxHeartbeats 4000000
namespace Hs
open PySem PySem.Spec PyProof.Rows Nk PySem.SetTable Ht
end Hs
set_option maxHeartbeats 4000000
namespace Hs
open PySem PySem.Spec PyProof.Rows Nk PySem.SetTable Ht
end Hs
set_option maxHeartbeats 4000000
namespace Hs
open PySem PySem.Spec PyProof.Rows Nk PySem.SetTable Ht
end Hs
set_option maxHeartbeats 4000000
namespace Hs
open PySem PySem.Spec PyProof.Rows Nk PySem.SetTable Ht
end Hs
set_option maxHeartbeats 4000000
namespace Hs
open PySem PySem.Spec PyProof.Rows Sem L2 Nk PySem.SetTable Ht
section
variable{α:Type}[DecidableEq α]
end
end Hs
namespace Hs
open PySem PySem.Spec PyProof.Rows Sem L2 Nk Ht
end Hs
set_option maxHeartbeats 4000000
namespace Nk
open PySem PySem.Spec PyProof.Rows Ht
noncomputable def itK(d:Addr)(i n ep:Nat):Obj:={ cls:=.type "dict_keyiterator",data:=.fields #[.ref d,.int i 0,.int n 0,.int ep 0] }
section
variable{prog:Program}{w:World}{A:Around}{E:Value->Shared->Prop}{s:Shared}{d I:Addr}{o:Obj}{es:Array DictEntry}{ep:Nat}
theorem PC(hh:A.handled=none)(hI:s.heap.get? I=some (itK d i es.size ep))(ho:s.heap.get? d=some o)(hd:o.data=.dict es ep)
  (more:∀(hi:i<es.size) (h':Heap),h'.get? I=some (itK d (i+1) es.size ep)->Heap.SameBut I s.heap h'->Q (some es[i].key) { s with heap:=h' })
  (done:es.size<=i->∀h',Heap.ExtBut I s.heap h'->Q none { s with heap:=h' }):wpAny (model prog w) A (pyNext (.ref I)) Q E s:=by
 have hT:s.TypeIs (.ref I) "dict_keyiterator" := ⟨_,hI,rfl⟩;have nm:∀{A:Around} {s:Shared} {E:Value->Shared->Prop} {R:String->Shared->Prop},s.TypeIs (.ref I) "dict_keyiterator" -> R "dict_keyiterator" s->wpAny (model prog w) A (typeNameOfWhole (.ref I)) R E s:=λty r=>wpAny_typeNameOfWhole_keyiter ty r;unfold pyNext;refine AAA (AAz (wpAny_callSpecial?_slot (name:=Str.ofString "__next__") hT PySem.F.slot_dict_keyiterator_next (AAd PySem.F.slot_dict_keyiterator_next hT PySem.F.entry_dict_keyiterator_next ?_ (PySem.F.args_dict_keyiterator_next_1 _))))
 wp_walk
 rw[hd]
 wp_walk
 rw[hd];refine AAB ?_;rw[if_neg (by simp)];refine AAB ?_;have key:(if (i:Int)<0 then none else es[(i:Int).toNat]?)=es[i]?:=by rw[if_neg (by omega),Int.toNat_natCast]
 dsimp only;rw[key];cases e:es[i]? with
 |some x=>
  wp_walk
  have hi:i<es.size:=(Array.getElem?_eq_some_iff.mp e).1;have ex:es[i]=x:=(Array.getElem?_eq_some_iff.mp e).2;refine⟨_,rfl,AAB ?_⟩;rw[←ex];refine more hi _ ?_ (Heap.SameBut.update ..);rw[if_neg (by decide +kernel),if_neg (by decide +kernel)];rw[Heap.get?_update_self _ hI (by rfl)];simp[itK,rawInt,Obj.mapFields]
 |none=>
  refine AAA (AAA (nm hT (AAB ?_)));rw[if_neg (by decide +kernel)];refine AAA (AAp hI (by simp) λh1 g1 s1=>?_);refine Fd (A:=A.in1) (s:={ s with heap:=h1 }) hh λa h' k ty=>?_;refine AAA (AA0 (T := "StopIteration") (b:=true) ty isSubtype_stop ?_);exact AAB (done (by simpa using e) h' λb o hb e=>k b o (s1.extBut b o hb e))
theorem V7(lo:(d==sysModules)=false)(ho:s.heap.get? d=some o)(ex:o.ExactDict)(hd:o.data=.dict es ep)(q:Q (.ref s.heap.objs.size) { s with heap:=s.heap.push (itK d 0 es.size ep) }):wpAny (model prog w) A (pyIter (.ref d)) Q E s:=by
 have hT:s.TypeIs (.ref d) "dict" := ⟨o,ho,ex.1⟩;refine wpAny_pyIter_slot hT PySem.F.slot_dict_iter (AAd PySem.F.slot_dict_iter hT PySem.F.entry_dict_iter ?_ (PySem.F.args_dict_iter_1 _))
 wp_walk
 rw[if_neg (by rw[ex.1];decide)]
 wp_walk
 rw[hd]
 wp_walk
 rw[hd]
 wp_walk
 exact⟨_,rfl, "dict_keyiterator",_,⟨_,AAD _ rfl,rfl⟩,PySem.F.slot_dict_keyiterator_next.lookup,q⟩
theorem QJ(hI:s.heap.get? I=some (itK d i es.size ep))(q:Q (.ref I) s):wpAny (model prog w) A (pyIter (.ref I)) Q E s:=wpAny_pyIter_keyiter (d:=d) (i:=i) (n:=es.size) (ep:=ep) ⟨_,hI,rfl,rfl⟩ q
theorem NM(hh:A.handled=none)(hne:d≠I)(hd:o.data=.dict es ep):Walks prog w A I [I,d] [I] es.size (λi v=>∃e,es[i]?=some e/\v=e.key) (λi h=>h.get? I=some (itK d i es.size ep)/\h.get? d=some o):=by
 refine⟨λb hb=>?_,λi h h' st k=>⟨k I (by simp) _ st.1,k d (by simp) _ st.2⟩,λi s Q E hi st q=>?_,λs Q E st q=>?_,λi s Q E st q=>QJ st.1 q⟩
 ·rw[AAL] at hb;rw[hb];simp
 ·refine PC hh st.1 st.2 hd (λhi' h' g sb=>?_) λz=>absurd hi (Nat.not_lt.mpr z);refine q _ h' s.toks ⟨es[i],Array.getElem?_eq_getElem hi',rfl⟩ ⟨g,(sb.2 d hne).trans st.2⟩ λb o hb e=>?_;exact(sb.2 b λz=>hb (by rw[z];simp)).trans e
 ·refine PC hh st.1 st.2 hd (λhi'=>absurd hi' (AA1 _)) λ_ h' k=>?_;exact q h' s.toks λb o hb e=>k b o (λz=>hb (by rw[z];simp)) e
theorem Li(lo:(d==sysModules)=false)(ex:o.ExactDict)(hd:o.data=.dict es ep):PySem.W.KdlSrc prog w "dict" d d es.size (λi v=>∃e,es[i]?=some e/\v=e.key) (λh=>h.get? d=some o):=by
 refine⟨λs h=>⟨_,h,ex.1⟩,λh e=>⟨Heap.lt_size e,Heap.lt_size e⟩,λh h' e k=>k d (.inl rfl) _ e,by decide,by decide,λA E s Q e q=>PySem.W.kdl_hint_dict ⟨_,e,ex.1⟩ q,λA s hh e=>?_⟩;exact⟨itK d 0 es.size ep,_,λE Q q=>V7 lo e ex hd q,NM hh (AAe (Heap.lt_size e)) hd,AAD _ rfl,AAC _ e⟩
theorem IW(it:ItemsOf (λi v=>∃e,es[i]?=some e/\v=e.key) vs es.size):vs.toList=es.toList.map (·.key):=by
 have h1:=it.1;refine List.ext_getElem (by simp[h1]) λi a b=>?_;have hi:i<vs.size:=by simpa using a
 obtain⟨e,g1,g2⟩:=it.2 i vs[i] (Array.getElem?_eq_getElem hi);have he:es[i]'(by omega)=e:=(Array.getElem?_eq_some_iff.mp g1).2;simp[g2,←he]
end
end Nk
namespace Nk
open PySem PySem.Spec PyProof.Rows L2 Mi
theorem UG(c:Cs):(csK c).deep<=8:=by
 have h:∀ns:List Int,NK.deeps (ns.map NK.int)=0:=λns=>by
  induction ns with
  |nil=>rfl
  |cons n r ih=>unfold List.map NK.deeps;rw[ih];rfl
 have:(csK c).deep=max 0 (max 0 (max (NK.deeps (c.2.2.map NK.int)+1) 0))+1:=rfl;rw[this,h]
 decide
theorem M9:∀{ns:List Int} {its:List Value},Vals (ns.map V.int) its->Ats h (ns.map NK.int) its
 |[],_,r=>by cases r;unfold List.map Ats;rfl
 |n::ns,_,r=>by
  cases r with
  |cons e t=>
   obtain⟨tk,rfl⟩:=e;unfold List.map Ats;exact⟨_,_,rfl,by unfold At;exact⟨tk,rfl⟩,M9 t⟩
section
variable{X:Cx}{pins:List (Addr×Obj)}{σ:L2.St}{H:Hp}{s:Shared}{ι:Nat->Addr}{k:Nat}
theorem UX(I:Inv X pins σ H s)(i:Is X.kw ι k H (csD c) v)(r:RelV v u):At s.heap (csK c) u:=by
 unfold csD Is at i;obtain⟨p,vs,rfl,h1,h2⟩:=i;cases r;obtain⟨its,rv,⟨o,g1,g2,n,g3⟩,_⟩:=I.tuple h1;unfold Mi.IsL at h2;obtain⟨v1,_,rfl,i1,h2⟩:=h2;unfold Mi.IsL at h2;obtain⟨v2,_,rfl,i2,h2⟩:=h2;unfold Mi.IsL at h2;obtain⟨v3,_,rfl,i3,h2⟩:=h2;unfold Mi.IsL at h2;subst h2;unfold Is at i1 i2 i3;subst i1 i2;obtain⟨p3,vs3,rfl,j1,j2⟩:=i3;have e3:=j2.ints;subst e3;obtain⟨its3,rv3,⟨o3,k1,k2,n3,k3⟩,_⟩:=I.tuple j1;cases rv with
 |cons a1 rv=>
  cases rv with
  |cons a2 rv=>
   cases rv with
   |cons a3 rv=>
    cases rv;obtain⟨t1,rfl⟩:=a1;obtain⟨t2,rfl⟩:=a2;cases a3;unfold csK At;refine⟨p,o,_,n,rfl,g1,g2,g3,?_⟩;unfold Ats;refine⟨_,_,rfl,by unfold At;exact⟨t1,rfl⟩,?_⟩;unfold Ats;refine⟨_,_,rfl,by unfold At;exact⟨t2,rfl⟩,?_⟩;unfold Ats;refine⟨_,_,rfl,?_,by unfold Ats;rfl⟩;unfold At;exact⟨p3,o3,_,n3,rfl,k1,k2,k3,M9 rv3⟩
theorem isC(I:Inv X pins σ H s)(i:Is X.kw ι k H (csD c) (.ref a)):(kind X.prog X.w).is s.heap (csK c) a:=⟨UX I i rfl,UG c⟩
end
noncomputable def B0(l:List (Cs×Addr×V))(us:List Value):List (NK×Addr×Value):=(l.zip us).map λx=>(csK x.1.1,x.1.2.1,x.2)
theorem Fp(h:l.length=us.length):(B0 l us).map (·.1)=(l.map (·.1)).map csK:=by
 unfold B0;rw[List.map_map,List.map_map];have:(λx:(Cs×Addr×V)×Value=>csK x.1.1)=(λy:Cs×Addr×V=>csK y.1) ∘ Prod.fst:=rfl;show (l.zip us).map (λx=>csK x.1.1)=_;rw[this,←List.map_map,List.map_fst_zip (by omega)];rfl
theorem Qe{ks:List Cs}(h:ks.Nodup):(ks.map csK).Nodup:=by
 refine List.Pairwise.map _ ?_ h;intro a b hne e;exact hne (Hd e)
theorem CO(h:l.length=us.length):(atKey (B0 l us) (csK c)).isSome=l.any λy=>decide (y.1=c):=by
 have e:(atKey (B0 l us) (csK c)).isSome=((B0 l us).map (·.1)).any λy=>decide (y=csK c):=by
  unfold atKey;rw[Option.isSome_map,List.any_map];rw[Bool.eq_iff_iff,List.find?_isSome,List.any_eq_true];rfl
 rw[e,Fp h,List.any_map,List.any_map];congr 1
 funext y
 show decide (csK y.1=csK c)=decide (y.1=c);by_cases z:y.1=c
 ·rw[z];simp
 ·rw[AAO z,AAO λq=>z (Hd q)]
theorem UD(hk:HOk P w H h)(e:H p=some (De p l)):∃(us:List Value) (o:Obj) (es:Array DictEntry) (ep:Nat),Vals (l.map (·.2.2)) us/\h.get? p=some o/\o.ExactDict/\o.data=.dict es ep /\
  es.toList=(l.zip us).map (λx=>{ key:=.ref x.1.2.1,hash:=(csK x.1.1).hash,val:=x.2 })/\(l.map (·.1)).Nodup/\l.length<=sizeLine/\(p==sysModules)=false:=(hk p _ e).1
theorem XD (x:∃(us:List Value) (o:Obj) (es:Array DictEntry) (ep:Nat),Vals (l.map (·.2.2)) us/\h.get? p=some o/\o.ExactDict/\o.data=.dict es ep /\
  es.toList=(l.zip us).map (λx=>{ key:=.ref x.1.2.1,hash:=(csK x.1.1).hash,val:=x.2 })/\(l.map (·.1)).Nodup/\l.length<=sizeLine/\(p==sysModules)=false):ObjOk P w H h p (De p l):=by
 refine⟨x,?_,?_⟩
 ·obtain⟨us,o,es,ep,_,h1,_⟩:=x;exact⟨o,h1⟩
 ·rintro h1 h2 ⟨us,o,es,ep,a1,a2,a3⟩ k;exact⟨us,o,es,ep,a1,k o a2,a3⟩
theorem aS{P:Program}{w:World}{h:Heap}{p:Addr}(hl:l.length=us.length)(h1:h.get? p=some o)(h2:o.ExactDict)(h3:o.data=.dict es ep)
  (h4:es.toList=(l.zip us).map (λx=>{ key:=.ref x.1.2.1,hash:=(csK x.1.1).hash,val:=x.2 })) (h5:(l.map (·.1)).Nodup) (hi:∀y∈l,(kind P w).is h (csK y.1) y.2.1):h.DictOfH (kind P w) p (B0 l us):=by
 refine⟨o,es,ep,h1,h2,h3,?_,?_,?_⟩
 ·rw[h4];unfold B0;rw[List.map_map];rfl
 ·intro x hx;unfold B0 at hx;obtain⟨y,hy,rfl⟩:=AAM.mp hx;exact hi y.1 (List.of_mem_zip (a:=y.1) (b:=y.2) hy).1
 ·rw[Fp hl];exact Qe h5
end Nk
namespace Mi
open PySem L2 Ht Nk
theorem CVs.keys:∀{l:List (Cs×D)} {r:List (Cs×Addr×V)},CVs K ι k H l r->r.map (·.1)=l.map (·.1)
 |[],_,h=>by cases h;rfl
 |(y,d)::l,_,h=>by
  obtain⟨a,v,r',rfl,_,_,h3⟩:=h;rw[AAX,AAX,CVs.keys h3]
theorem CVs.at:∀{l:List (Cs×D)} {r:List (Cs×Addr×V)},CVs K ι k H l r->∀y∈r,Is K ι k H (csD y.1) (.ref y.2.1)
 |[],_,h,y,hy=>by cases h;cases hy
 |(z,d)::l,_,h,y,hy=>by
  obtain⟨a,v,r',rfl,h1,_,h3⟩:=h;rcases AAJ.mp hy with rfl|hy
  ·exact h1
  ·exact CVs.at h3 y hy
theorem CVs.isL:∀{l:List (Cs×D)} {r:List (Cs×Addr×V)},CVs K ι k H l r->IsL K ι k H (l.map λy=>csD y.1) (r.map λy=>.ref y.2.1)
 |[],_,h=>by cases h;exact .nil
 |(z,d)::l,_,h=>by
  obtain⟨a,v,r',rfl,h1,_,h3⟩:=h;exact .cons h1 (CVs.isL h3)
theorem CVs.app(h1:Is K ι k H (csD c) (.ref a))(h2:Is K ι k H d v):∀{l:List (Cs×D)} {r:List (Cs×Addr×V)},CVs K ι k H l r->CVs K ι k H (l++[(c,d)]) (r++[(c,a,v)])
 |[],_,h=>by cases h;exact⟨a,v,[],rfl,h1,h2,rfl⟩
 |(z,e)::l,_,h=>by
  obtain⟨b,w,r',rfl,g1,g2,g3⟩:=h;exact⟨b,w,_,rfl,g1,g2,CVs.app h1 h2 g3⟩
theorem NC{α β:Type}{l:List (Cs×α)}{r:List (Cs×β)}(h:r.map (·.1)=l.map (·.1))(c:Cs):(r.any λy=>decide (y.1=c))=l.any λy=>decide (y.1=c):=by
 have e1:(r.any λy=>decide (y.1=c))=(r.map (·.1)).any λy=>decide (y=c):=by rw[List.any_map];rfl
 have e2:(l.any λy=>decide (y.1=c))=(l.map (·.1)).any λy=>decide (y=c):=by rw[List.any_map];rfl
 rw[e1,e2,h]
noncomputable def Gs:List D->Option (List Int)
 |[]=>some []
 | .int i::r=>(Gs r).map (i::·)
 |_::_=>none
theorem HL:∀{ds:List D} {ns:List Int},Gs ds=some ns->ds=ns.map D.int
 |[],ns,e=>by cases e;rfl
 | .int i::r,ns,e=>by
  unfold Gs at e;cases h:Gs r with
  |none=>rw[h] at e;cases e
  |some m=>rw[h] at e;cases e;rw[HL h];rfl
 | .non::_,_,e | .bl _::_,_,e | .str _::_,_,e | .ty _::_,_,e | .scr _::_,_,e | .tup _::_,_,e | .lst _::_,_,e | .ref _::_,_,e=>by cases e
noncomputable def RD:D->Option Cs
 | .tup [.int a,.int b,.tup ds]=>(Gs ds).map λns=>(a,b,ns)
 |_=>none
theorem KY(e:RD d=some c):d=csD c:=by
 unfold RD at e;split at e
 ·rename_i a b ds;cases h:Gs ds with
  |none=>rw[h] at e;cases e
  |some ns=>rw[h] at e;cases e;rw[HL h];rfl
 ·cases e
noncomputable def UZ:D->M (Nat×List (Cs×D))
 | .ref n=>λμ=>match μ[n]? with
  |some (.dC l)=>some ((n,l),μ)
  |_=>none
 |_=>BK
theorem FB(R:RelH K ι μ H)(i:Is K ι μ.length H d v)(e:UZ d μ=some (r,μ')):μ'=μ/\d=.ref r.1/\μ[r.1]?=some (.dC r.2)/\v=.ref (ι r.1)/\∃kvs,H (ι r.1)=some (De (ι r.1) kvs)/\CVs K ι μ.length H r.2 kvs:=by
 cases d with
 |ref n=>
  have e:(match μ[n]? with|some (.dC l)=>some ((n,l),μ)|_=>none)=some (r,μ'):=e;split at e
  ·rename_i l hq;cases e;unfold Is at i;obtain⟨u,h1,kvs,rfl,h2⟩:=R.obj n _ hq;exact⟨rfl,rfl,hq,i.2,kvs,h1,h2⟩
  ·cases e
 |_=>cases e
section
variable{X:Cx}{e o i:Expr}{pos pos':Pos}
noncomputable def Wm:Sl->M D:=λ_ μ=>some (.ref μ.length,μ++[.dC []])
theorem TH:PE X (.Dict [] [] pos) (λ_ H Q=>∀p,H p=none->Q (.ref p) (upd H p (De p []))):=λpins s σ H Q I h=>
 wpAny_Dict_empty ⟨.ref s.heap.objs.size,_,I.laid (a:=s.heap.objs.size) (o:=De s.heap.objs.size []) (t':=s.toks) (λ_ _ q=>AAC _ q) (AAF _)
  (XD ⟨[],_,#[],0,.nil,AAD _ rfl,⟨rfl,rfl,rfl⟩,rfl,rfl,List.nodup_nil,AAk _,AAf.mpr (Ne.symm (AAe I.big))⟩),rfl,h _ (I.hok.fresh (AAF _))⟩
theorem Se:RE X (.Dict [] [] pos) Wm:=RE.wk TH λσ H Q h=>by
 obtain⟨ι,μ,τ,d,μ',R,S,e,q⟩:=h;cases e;intro p hp;obtain⟨ι',E1,R1,e0⟩:=R.grown (m:=.dC []) (o:=De p []) hp ⟨[],rfl,rfl⟩;exact q ι' _ E1 R1 _ (by unfold Is;exact⟨by simp,by rw[e0]⟩)
theorem L0(hr:Room k X.A):(Nk.kind X.prog X.w).room X.A.in1:=by
 have:=hr.units;show X.A.units+1+8<cLine;omega
theorem Mt(I:Inv X pins σ H s)(h:H p=some (De p l))(hi:∀y∈l,Is X.kw ι k H (csD y.1) (.ref y.2.1)):
  ∃us,l.length=us.length/\Vals (l.map (·.2.2)) us/\s.heap.DictOfH (Nk.kind X.prog X.w) p (B0 l us)/\(l.map (·.1)).Nodup/\l.length<=sizeLine/\(p==sysModules)=false:=by
 obtain⟨us,o,es,ep,h0,h1,h2,h3,h4,h5,h6,h7⟩:=UD I.hok h;have hl:l.length=us.length:=by have:=h0.length;simpa using this
 exact⟨us,hl,h0,aS hl h1 h2 h3 h4 h5 λy hy=>isC I (hi y hy),h5,h6,h7⟩
noncomputable def aU(neg:Bool)(y d:D):M D:=bnd (UZ d) λr=>λμ=>(RD y).map λc=>(.bl (if neg then !(r.2.any λz=>decide (z.1=c)) else r.2.any λz=>decide (z.1=c)),μ)
theorem TU{k:Nat}(hr:Room k X.A):OpR X (compareOp .NotIn) (rM X.kw (aU true)):=λpins s σ H x y v u Q I rx ry h=>by
 obtain⟨ι,μ,a,b,d,μ',R,ia,ib,e,q⟩:=h;obtain⟨r,μ1,e1,e2⟩:=AL e;obtain⟨hm,_,g1,rfl,kvs,g2,g3⟩:=FB R ib e1;subst hm;cases hc:RD a with
 |none=>rw[hc] at e2;cases e2
 |some c=>
  rw[hc] at e2;cases e2;cases KY hc;have ia':=ia;unfold csD Is at ia';obtain⟨pa,_,rfl,_⟩:=ia';cases rx;cases ry;obtain⟨us,hl,_,dd,_,_,lo⟩:=Mt I g2 g3.at;refine PyProof.Rows.wpAny_notIn_heap (L0 hr) (isC I ia) lo dd ?_;rw[CO hl,NC g3.keys];exact⟨.bl _,H,I.tok _,rfl,q ι H R.ext0 R _ (ofB _)⟩
noncomputable def SQ(mo mi mv:Sl->M D):Sl->M (Fl×Sl):=λτ=>bnd (mv τ) λv=>bnd (mo τ) λx=>bnd (mi τ) λy=>bnd (UZ x) λr=>λμ=>match RD y with
 |some c=>if r.2.length<sizeLine/\(r.2.any λz=>decide (z.1=c))=false then some ((.next,τ),μ.set r.1 (.dC (r.2++[(c,v)]))) else none
 |none=>none
noncomputable def Zc(td ty tv:TE)(K:KW):TS:=λDn σ H=>tv σ H λv H1=>td σ H1 λx H2=>ty σ H2 λy H3=>∃p l c a ι k,x=.ref p/\y=.ref a/\H3 p=some (De p l)/\(∀z∈l,Is K ι k H3 (csD z.1) (.ref z.2.1))/\Is K ι k H3 (csD c) (.ref a)/\l.length<sizeLine/\(l.any λz=>decide (z.1=c))=false/\Dn.nx σ (upd H3 p (De p (l++[(c,a,v)])))
theorem VY(hr:Room k0 X.A)(ho:PE X o td)(hi:PE X i ty)(hv:PE X value tv)(hs:swapsWith value (some (.Subscript o i pos')) pos.line X.env=pure false):
  PS X (.Assign [.Subscript o i pos'] value pos) (Zc td ty tv X.kw):=by
 intro pins s σ H D I h;refine wpAny_Assign_Subscript (thn (hv pins s σ H _ I h) λr s1 ⟨v,H1,I1,rv,q1⟩=>thn (ho pins s1 σ H1 _ I1 q1) λu s2 ⟨x,H2,I2,rx,q2⟩=>thn (hi pins s2 σ H2 _ I2 q2) λiv s3 ⟨y,H3,I3,ry,p,l,c,a,ι,k,ex,ey,e,hl,hc,hz,hn,q3⟩=>?_) hs;subst ex ey;cases rx;cases ry;obtain⟨us,hlen,hvs,dd,nd,hs,lo⟩:=Mt I3 e hl;have hx:(B0 l us).length=l.length:=by unfold B0;rw[AAG,List.length_zip];omega
 have no:atKey (B0 l us) (csK c)=none:=by
  have:=CO (c:=c) hlen;rw[hn] at this;cases z:atKey (B0 l us) (csK c) with
  |none=>rfl
  |some _=>rw[z] at this;cases this
 refine wpAny_setItem_heap (hsz:=by omega) (L0 hr) (isC I3 hc) dd λh' dd' sb=>⟨σ,_,?_,q3⟩;rw[storedH_new no] at dd';obtain⟨o',es',ep',d1,d2,d3,d4,_,_⟩:=dd';refine Hc I3 (by rw[e];exact True.intro) sb ⟨o',d1⟩ (XD ⟨us++[r],o',es',ep',?_,d1,d2,d3,?_,?_,?_,lo⟩)
 ·rw[AAY];exact hvs.append (.cons rv .nil)
 ·rw[d4,List.zip_append hlen,AAY];unfold B0;rw[AAY,List.map_map];rfl
 ·rw[AAY];refine List.nodup_append.mpr ⟨nd,by simp,?_⟩;intro z hz' w hw;have hw':w=c:=by simpa using hw
  intro hzc;obtain⟨t,ht,et⟩:=AAM.mp hz';have et':t.1=c:=et.trans (hzc.trans hw');have:(l.any λz=>decide (z.1=c))=true:=List.any_eq_true.mpr ⟨t,ht,by simp[et']⟩;rw[hn] at this;cases this
 ·rw[AAH];simp;omega
theorem Oy{value:Expr}{k:Nat}(hr:Room k X.A)(ho:RE X o mo)(hi:RE X i mi)(hv:RE X value mv)(hs:swapsWith value (some (.Subscript o i pos')) pos.line X.env=pure false:=by rfl):RS X (.Assign [.Subscript o i pos'] value pos) (SQ mo mi mv):=RS.wk (VY hr ho.pe hi.pe hv.pe hs) λDn σ H h=>by
 obtain⟨ι,μ,τ,f,τ',μ',R,S,e,q⟩:=h;obtain⟨v,μ1,e1,ee1⟩:=AL e;obtain⟨x,μ2,e2,ee2⟩:=AL ee1;obtain⟨y,μ3,e3,ee3⟩:=AL ee2;obtain⟨r,μ4,e4,ee4⟩:=AL ee3;refine⟨ι,μ,τ,v,μ1,R,S,e1,λι1 H1 E1 R1 v1 i1=>⟨ι1,μ1,τ,x,μ2,R1,S.ext E1,e2,λι2 H2 E2 R2 v2 i2=>⟨ι2,μ2,τ,y,μ3,R2,S.ext (E1.trans E2),e3,λι3 H3 E3 R3 v3 i3=>?_⟩⟩⟩;obtain⟨hm,hx,g1,hv2,kvs,g2,g3⟩:=FB R3 (i2.ext E3) e4;subst hm;have E13:=(E1.trans E2).trans E3;cases hk:RD y with
 |none=>rw[hk] at ee4;cases ee4
 |some c=>
  rw[hk] at ee4;have ee4:(if r.2.length<sizeLine/\(r.2.any λz=>decide (z.1=c))=false then some ((Fl.next,τ),List.set μ4 r.1 (MO.dC (r.2++[(c,v)]))) else none)=some ((f,τ'),μ'):=ee4;split at ee4
  ·rename_i hl;cases ee4;cases KY hk;have i3':=i3;unfold csD Is at i3';obtain⟨a,_,rfl,_⟩:=i3';have hlt:r.1<List.length μ4:=(AAU.mp g1).1;have hkl:kvs.length=r.2.length:=by have:=congrArg List.length g3.keys;simpa using this
   obtain⟨E4,R4⟩:=R3.changed (m:=.dC (r.2++[(c,v)])) (o:=De (ι3 r.1) (kvs++[(c,a,v1)])) hlt ⟨_,rfl,CVs.app i3 (i1.ext (E2.trans E3)) g3⟩;exact⟨_,kvs,c,a,ι3,_,hv2,rfl,g2,g3.at,i3,by omega,by rw[NC g3.keys];exact hl.2,q ι3 _ (E13.trans E4) R4 σ (S.ext (E13.trans E4))⟩
  ·cases ee4
theorem Ph{l:List (Cs×Addr×V)}{es:Array DictEntry}(hl:l.length=us.length)(h4:es.toList=(l.zip us).map (λx=>{ key:=.ref x.1.2.1,hash:=(csK x.1.1).hash,val:=x.2 })):es.toList.map (·.key)=l.map λy=>Value.ref y.2.1:=by
 rw[h4,List.map_map];have:((λx:DictEntry=>x.key) ∘ λx:(Cs×Addr×V)×Value=>({ key:=.ref x.1.2.1,hash:=(csK x.1.1).hash,val:=x.2 }:DictEntry))=(λy:Cs×Addr×V=>Value.ref y.2.1) ∘ Prod.fst:=rfl;rw[this,←List.map_map,List.map_fst_zip (by omega)]
theorem Jd:∀l:List (Cs×Addr×V),Vals (l.map λy=>V.ref y.2.1) (l.map λy=>Value.ref y.2.1)
 |[]=>.nil
 |y::r=>.cons rfl (Jd r)
theorem OD(hc:X.calm=true):Bh X (.type "list") (λxs H Q=>∃p l,xs=[.ref p]/\H p=some (De p l)/\∀q,H q=none->Q (.ref q) (upd H q (.lst (l.map λy=>.ref y.2.1)))):=by
 intro pins s σ H xs us Q I r h;obtain⟨p,l,rfl,hp,q⟩:=h;obtain⟨u,rfl,ru⟩:=Hi r;cases ru;obtain⟨us,o,es,ep,h0,h1,h2,h3,h4,h5,h6,h7⟩:=UD I.hok hp;have hl:l.length=us.length:=by have:=h0.length;simpa using this
 have hsz:es.size=l.length:=by rw[←Array.length_toList,h4,AAG,List.length_zip];omega
 refine PySem.W.kdl_call (Li h7 h2 h3) (I.ok.hd hc) h1 (by omega) λh' tk acc c kp e it=>?_;have ek:=(IW it).trans (Ph hl h4);refine⟨.ref s.heap.objs.size,_,I.laid (t':=tk) kp (AAF _) (show ObjOk X.prog X.w _ h' _ (.lst (l.map λy=>.ref y.2.1)) from ⟨by simpa using h6,acc.toList,c,?_,by rw[Array.toArray_toList];exact e⟩),rfl,q _ (I.hok.fresh (AAF _))⟩;rw[ek];exact Jd l
noncomputable def Nu:List D->M D
 |[d]=>bnd (UZ d) λr=>λμ=>some (.ref μ.length,μ++[.lst (r.2.map λy=>csD y.1)])
 |_=>BK
theorem WN(hc:X.calm=true):Bh X (.type "list") (rMA X.kw Nu):=λpins s σ H xs us Q I r h=>by
 obtain⟨ι,μ,as,d,μ',R,ia,e,q⟩:=h;unfold Nu at e;split at e
 ·obtain⟨rr,μ1,e1,e2⟩:=AL e;obtain⟨v,rfl,i1⟩:=Gq ia;obtain⟨hm,_,g1,rfl,kvs,g2,g3⟩:=FB R i1 e1;subst hm;cases e2;refine OD hc pins s σ H _ us Q I r ⟨_,kvs,rfl,g2,λp hp=>?_⟩;obtain⟨ι',E1,R1,e0⟩:=R.grown (m:=.lst (rr.2.map λy=>csD y.1)) hp ⟨_,rfl,g3.isL⟩;exact q ι' _ E1 R1 _ (by unfold Is;exact⟨by simp,by rw[e0]⟩)
 ·cases e
end
end Mi
namespace Hs
open PySem PySem.Spec PyProof.Rows Sem L2 Nk Ht
end Hs
namespace Nk
open PySem PySem.Spec PyProof.Rows PySem.SeqAt
noncomputable def Qq(x:Cs):List Cs->List Cs
 |[]=>[x]
 |y::r=>if cLt x y=true then x::y::r else y::Qq x r
noncomputable def NU:List Cs->List Cs
 |[]=>[]
 |x::r=>Qq x (NU r)
theorem Gu(x:Cs):∀l,(Qq x l).Perm (x::l)
 |[]=>List.Perm.refl _
 |y::r=>by
  unfold Qq;split
  ·exact List.Perm.refl _
  ·exact((Gu x r).cons y).trans (List.Perm.swap x y r)
theorem Ez:∀l,(NU l).Perm l
 |[]=>List.Perm.refl _
 |x::r=>(Gu x _).trans ((Ez r).cons x)
theorem UQ(h:cLt a b=true)(g:cLt b c=true):cLt a c=true:=Nv h g
theorem WR(a:Cs):cLt a a=false:=HX _
theorem WQ(h:a≠b):cLt a b=true∨cLt b a=true:=K5 λz=>h (Me z)
theorem Pb(x:Cs):∀{l:List Cs},(∀y∈l,y≠x)->l.Pairwise (λx y=>cLt x y=true)->(Qq x l).Pairwise λx y=>cLt x y=true
 |[],_,_=>List.pairwise_singleton _ _
 |y::r,hx,h=>by
  obtain⟨h1,h2⟩:=AA2.mp h;unfold Qq;split
  ·rename_i hl;exact AA2.mpr ⟨λz hz=>(AAJ.mp hz).elim (λe=>e ▸ hl) λhz=>UQ hl (h1 z hz),h⟩
  ·rename_i hl;refine AA2.mpr ⟨λz hz=>?_,Pb x (λz hz=>hx z (AAR _ hz)) h2⟩;rcases AAJ.mp ((Gu x r).mem_iff.mp hz) with rfl|hz
   ·exact(WQ (hx y AAQ)).resolve_right hl
   ·exact h1 z hz
theorem Ol:∀{l:List Cs},l.Nodup->(NU l).Pairwise λx y=>cLt x y=true
 |[],_=>List.Pairwise.nil
 |x::r,h=>by
  obtain⟨h1,h2⟩:=List.nodup_cons.mp h;exact Pb x (λy hy e=>h1 (by rw[←e];exact(Ez r).mem_iff.mp hy)) (Ol h2)
theorem Wa:∀{xs ys:List Cs},xs.Pairwise (λx y=>cLt x y=true)->ys.Pairwise (λx y=>cLt x y=true)->xs.Perm ys->xs=ys
 |[],ys,_,_,p=>by cases p.symm.eq_nil;rfl
 |x::xs,[],_,_,p=>by cases p.eq_nil
 |x::xs,y::ys,hx,hy,p=>by
  obtain⟨x1,x2⟩:=AA2.mp hx;obtain⟨y1,y2⟩:=AA2.mp hy;have e:x=y:=by
   rcases AAJ.mp (p.mem_iff.mp AAQ) with e|e
   ·exact e
   ·rcases AAJ.mp (p.symm.mem_iff.mp AAQ) with e' | e'
    ·exact e'.symm
    ·have:=UQ (y1 x e) (x1 y e');rw[WR] at this;cases this
  subst e;rw[Wa x2 y2 (List.Perm.cons_inv p)]
theorem U1(nd:l.Nodup)(p:ks.Perm l)(u:ks.Pairwise λx y=>cLt x y=true):ks=NU l:=Wa u (Ol nd) (p.trans (Ez l).symm)
section
variable{prog:Program}{w:World}{A:Around}{E:Value->Shared->Prop}{s:Shared}
theorem Lm(hh:A.handled=none)(hu:A.units+16<cLine)(lo:(d==sysModules)=false)(ho:s.heap.get? d=some o)(ex:o.ExactDict)(hd:o.data=.dict es ep)
  (hk:Ats s.heap (ks.map csK) (es.toList.map (·.key))) (nd:ks.Nodup) (h64:es.size<64)
  (q:∀(h1 h':Heap) tk c (out:List Value) (ks':List Cs),(∀b o,s.heap.get? b=some o->h1.get? b=some o)->(∀b o,h1.get? b=some o->h'.get? b=some o)->h'.get? h1.objs.size=some (seqObj "list" out.toArray c)->Ats h1 (ks'.map csK) out->ks'=NU ks->(∀v∈out,v∈es.toList.map (·.key))->Q (.ref h1.objs.size) { s with heap:=h',toks:=tk }) :
  wpAny (model prog w) A (call (.builtin "sorted") [.ref d]) Q E s:=by
 refine Calls.call_function_entry kind_sorted plain_sorted entry_sorted (args_sorted1 _) ?_;unfold Builtin.«sorted»;refine AAA (AAw (a:=()) rfl ?_);refine AAA (PySem.W.kdu_collect (A:=A.in1) (Li lo ex hd) hh ho (by rw[sizeLine_eq];omega) λh1 t1 acc k1 it=>?_);have ek:=IW it;have hlen:acc.toList.length=es.size:=by rw[Array.length_toList];exact it.1
 refine AAA (wpAny_newList ?_ (by rw[sizeLine_eq];omega));have hL:(h1.push (seqObj "list" acc.toList.toArray 0)).get? h1.objs.size=some (seqObj "list" acc.toList.toArray 0):=AAD _ rfl;have kL:∀b o,h1.get? b=some o->(h1.push (seqObj "list" acc.toList.toArray 0)).get? b=some o:=λb o e=>AAC _ e;have hk1:Ats h1 (ks.map csK) acc.toList:=by rw[ek];exact hk.kept λb o items n e _ _=>k1 b o e
 have hkL:Ats (h1.push (seqObj "list" acc.toList.toArray 0)) (ks.map csK) acc.toList:=hk1.kept λb o items n e _ _=>kL b o e;refine AAA (AAo (AAd slot_list_sort ⟨_,hL,rfl⟩ entry_list_sort (U2 (s:={ s with heap:=h1.push (seqObj "list" acc.toList.toArray 0),toks:=t1 }) (by show A.units+1+1+8<cLine;omega) hL hkL nd (by omega) λout ks' a1 a2 a3 a4=>⟨_,rfl,?_⟩) (args_list_sort _)));obtain⟨c,hc⟩:=sortedHeap_at (out:=out.toArray) hL;have em:=U1 nd a2 a3;have a1':Ats h1 (ks'.map csK) out:=by
  refine Ats.of_get (by have:=a1.len;simpa using this) λi k v e1 e2=>?_;obtain⟨v',f1,f2⟩:=a1.get i k e1;rw[e2] at f1;cases f1;have hv:v∈acc.toList:=a4 v (AAV e2);obtain⟨j,hj,ej⟩:=List.getElem_of_mem hv;have hjk:j<ks.length:=by have:=hk1.len;simp at this;simp at hj;omega
  obtain⟨v2,g1,g2⟩:=hk1.get j (csK ks[j]) (by simp[hjk]);rw[AAt hj,ej] at g1;cases g1;have same:=At.inj (At.kept g2 λb o items n e _ _=>kL b o e) f2;rw[←same];exact g2
 exact AAB ⟨_,rfl,q h1 _ _ c out ks' k1 (λb o e=>by rw[sortedHeap_old (AAe (Heap.lt_size e)) (Heap.lt_size (kL b o e))];exact kL b o e) hc a1' em (λv hv=>by rw[←ek];exact a4 v hv)⟩
end
end Nk
set_option maxHeartbeats 4000000
namespace Hs
open PySem PySem.Spec PyProof.Rows PySem.SeqAt Nk Ht
end Hs
set_option maxHeartbeats 4000000
namespace Hs
open PySem PySem.Spec PyProof.Rows Nk PySem.SetTable Ht L2
end Hs
set_option maxHeartbeats 4000000
namespace Hs
open PySem PySem.Spec PyProof.Rows Nk PySem.SetTable Ht L2
end Hs
set_option maxHeartbeats 4000000
namespace Hs
open PySem PySem.Spec PyProof.Rows Nk PySem.SetTable Ht L2
end Hs
namespace Mi
open PySem L2 Ht Nk
section
variable{X:Cx}{e:Expr}
theorem M8(I:Inv X pins σ H s):∀{l:List (Cs×Addr×V)},(∀y∈l,Is X.kw ι k H (csD y.1) (.ref y.2.1))->Ats s.heap ((l.map (·.1)).map csK) (l.map λy=>Value.ref y.2.1)
 |[],_=>by show Ats s.heap [] [];unfold Ats;rfl
 |y::l,h=>by
  show Ats s.heap (csK y.1::(l.map (·.1)).map csK) (Value.ref y.2.1::l.map λy=>Value.ref y.2.1);unfold Ats;exact⟨_,_,rfl,UX I (h y AAQ) rfl,M8 I λz hz=>h z (AAR _ hz)⟩
theorem TL{pins:List (Addr×Obj)}{σ:St}{H:Hp}{s:Shared}{h1:Heap}(I:Inv X pins σ H s)(kp:∀b o,s.heap.get? b=some o->h1.get? b=some o){l:List (Cs×Addr×V)}(hi:∀y∈l,Is X.kw ι k H (csD y.1) (.ref y.2.1)):
  ∀{out:List Value} {ks:List Cs},Ats h1 (ks.map csK) out->(∀v∈out,v∈l.map λy=>Value.ref y.2.1)->∃vs,Vals vs out/\IsL X.kw ι k H (ks.map csD) vs
 |_,[],a,_=>by
  unfold List.map Ats at a;subst a;exact⟨[],.nil,.nil⟩
 |_,c::ks,a,m=>by
  unfold List.map Ats at a;obtain⟨v,out',rfl,a1,a2⟩:=a;obtain⟨vs,r,i⟩:=TL I kp hi a2 λv hv=>m v (AAR _ hv);obtain⟨y,hy,rfl⟩:=AAM.mp (m v AAQ);have a3:=(UX I (hi y hy) rfl).kept (h':=h1) λb o items n e _ _=>kp b o e;have ec:=Hd (At.inj a3 a1);exact⟨.ref y.2.1::vs,.cons rfl r,.cons (by rw[←ec];exact hi y hy) i⟩
theorem OC{k0:Nat}(hr:Room k0 X.A)(hc:X.calm=true):Bh X (.builtin "sorted") (λxs H Q=>∃p l ι k,xs=[.ref p]/\H p=some (De p l)/\(∀y∈l,Is X.kw ι k H (csD y.1) (.ref y.2.1))/\l.length<64/\∀q vs,H q=none->IsL X.kw ι k H ((NU (l.map (·.1))).map csD) vs->Q (.ref q) (upd H q (.lst vs))):=by
 intro pins s σ H xs us Q I r h;obtain⟨p,l,ι,k,rfl,hp,hi,h64,q⟩:=h;obtain⟨u,rfl,ru⟩:=Hi r;cases ru;obtain⟨us,o,es,ep,h0,h1,h2,h3,h4,h5,h6,h7⟩:=UD I.hok hp;have hl:l.length=us.length:=by have:=h0.length;simpa using this
 have hsz:es.size=l.length:=by rw[←Array.length_toList,h4,AAG,List.length_zip];omega
 have ek:=Ph hl h4;refine Lm (ks:=l.map (·.1)) (I.ok.hd hc) (by have:=hr.units;omega) h7 h1 h2 h3 (by rw[ek];exact M8 I hi) h5 (by omega) λg1 h' tk c out ks' k1 k2 e1 at' em sub=>?_;subst em;obtain⟨vs,rv,iv⟩:=TL I k1 hi at' (by rw[←ek];exact sub);have I1:=I.kept (t':=tk) k1;have hz:vs.length<=sizeLine:=by
  have:=iv.length;rw[this,AAG,(Ez _).length_eq,AAG];omega
 exact⟨.ref g1.objs.size,_,I1.laid (t':=tk) (o:=.lst vs) k2 (AAF _) ⟨hz,out,c,rv,e1⟩,rfl,q _ vs (I1.hok.fresh (AAF _)) iv⟩
noncomputable def NV:List D->M D
 |[d]=>bnd (UZ d) λr=>λμ=>if r.2.length<64 then some (.lst ((NU (r.2.map (·.1))).map csD),μ) else none
 |_=>BK
theorem WM(hr:Room k0 X.A)(hc:X.calm=true):Bh X (.builtin "sorted") (rMA X.kw NV):=λpins s σ H xs us Q I r h=>by
 obtain⟨ι,μ,as,d,μ',R,ia,e,q⟩:=h;unfold NV at e;split at e
 ·obtain⟨rr,μ1,e1,e2⟩:=AL e;obtain⟨v,rfl,i1⟩:=Gq ia;obtain⟨hm,_,g1,rfl,kvs,g2,g3⟩:=FB R i1 e1;subst hm;split at e2
  ·rename_i hlt;cases e2;have hkl:kvs.length=rr.2.length:=by have:=congrArg List.length g3.keys;simpa using this
   refine OC hr hc pins s σ H _ us Q I r ⟨_,kvs,ι,_,rfl,g2,g3.at,by omega,λp vs hp iv=>?_⟩;rw[g3.keys] at iv;exact PQ R iv q p hp
  ·cases e2
 ·cases e
noncomputable def Nd:D->List D->M D
 | .ref n,[]=>NP n λds=>(ds[ds.length-1]?).map λd=>(d,ds.dropLast)
 |_,_=>BK
theorem IsL.dropLast(h:IsL K ι k H ds vs):IsL K ι k H ds.dropLast vs.dropLast:=by
 rw[List.dropLast_eq_take,List.dropLast_eq_take,h.length];exact h.take _
theorem Ta:MtR X "list.pop" (rMM X.kw Nd):=λpins s σ H x xs v us Q I rx rs h=>by
 obtain⟨ι,μ,a,as,d,μ',R,ia,ib,e,q⟩:=h;unfold Nd at e;split at e
 ·rename_i n;obtain⟨ds,es,h1,h2,rfl⟩:=GY e;cases hd:ds[ds.length-1]? with
  |none=>rw[hd] at h2;cases h2
  |some d0=>
   rw[hd] at h2;cases h2;unfold IsL at ib;subst ib;unfold Is at ia;obtain⟨_,rfl⟩:=ia;obtain⟨u,g1,vs,rfl,g2⟩:=R.obj n _ h1;obtain⟨w,ew,iw⟩:=g2.get hd;refine YS pins s σ H _ _ v us Q I rx rs ⟨_,vs,w,rfl,rfl,g1,by rw[g2.length];exact ew,?_⟩;exact Kf R h1 g2.dropLast iw q
 ·cases e
noncomputable def Tb(m:Sl->M D):Sl->M Bool:=λτ=>bnd (m τ) λd=>bnd (Co d) λds=>ret (!ds.isEmpty)
theorem Ow(h:RE X e m)(he:∀whole,isTrue e X.env whole=(do let v ←whole;standAt e.pos;holding [v] (truthy v)):=by intro _;rfl):RT X e (Tb m):=RT.wk (So h.pe he) λσ H Q q=>by
 obtain⟨ι,μ,τ,b,μ',R,S,e,q⟩:=q;obtain⟨x,μ1,e1,ee1⟩:=AL e;obtain⟨ds,μ2,e2,ee2⟩:=AL ee1;cases ee2;refine⟨ι,μ,τ,x,μ1,R,S,e1,λι1 H1 E1 R1 v1 i1=>?_⟩;obtain⟨hm,p,vs,rfl,g1,g2⟩:=CV R1 i1 e2;subst hm;have hl:=g2.length;have he:vs.isEmpty=ds.isEmpty:=by
  cases vs<;>cases ds<;>first|rfl|(simp at hl)
 refine⟨!vs.isEmpty,?_,by rw[he];exact q ι1 H1 E1 R1⟩;rcases g1 with g1|g1
 ·exact .inl ⟨vs,g1,rfl⟩
 ·exact .inr (.inl ⟨vs,g1,rfl⟩)
end
end Mi
namespace Mi
open PySem L2 Ht Nk PySem.SeqAt
section
variable{X:Cx}{e st:Expr}{pos p2:Pos}
noncomputable def Sb(d k:D):M D:=match k with
 | .int i=>if i=-1 then bnd (DC d) λds=>FC ds.reverse else BK
 |_=>BK
theorem Xq(he:RE X e m)(hst:RE X st ms):RE X (.Subscript e (.Slice none none (some st) p2) pos) (mOp Sb m ms):=RE.wk (X7 he.pe hst.pe) λσ H Q h=>by
 obtain⟨ι,μ,τ,d,μ',R,S,ev,q⟩:=h;obtain⟨x,μ1,e1,e2⟩:=AL ev;obtain⟨y,μ2,e3,e4⟩:=AL e2;refine⟨ι,μ,τ,x,μ1,R,S,e1,λι1 H1 E1 R1 v1 i1=>⟨ι1,μ1,τ,y,μ2,R1,S.ext E1,e3,λι2 H2 E2 R2 v2 i2=>?_⟩⟩;unfold Sb at e4;split at e4
 ·rename_i i;split at e4
  ·rename_i hi;subst hi;obtain⟨ds,μ3,e5,e6⟩:=AL e4;obtain⟨hm,a,vs,rfl,h1,h2⟩:=Bw R2 (i1.ext E2) e5;subst hm;unfold Is at i2;subst i2;exact⟨rfl,a,vs,rfl,h1,(PH R2 h2.reverse e6 λι3 H3 E3 R3 v3 i3=>q ι3 H3 ((E1.trans E2).trans E3) R3 v3 i3).2⟩
  ·cases e4
 ·cases e4
end
end Mi
set_option maxHeartbeats 2000000
namespace Mi
open PySem PySem.Spec PyProof.Rows L2 Ht Nk Hs
end Mi
set_option maxHeartbeats 2000000
namespace Mi
open PySem PySem.Spec PyProof.Rows L2 Ht Nk Hs
end Mi
namespace L2
open PySem PySem.Spec PyProof.Rows
section
variable{X:Cx}{scope:Scope}{tgs:List Str}{ix:List Nat}
theorem L9(co:Option Expr)(hN:X.N.Nodup)(hiN:X.N[i]?=some y)(hy:X.env.scope.names.lookup y=some .local)
  (S:BScope X scope tgs ix) (hc:X.calm=true) (hi:PI X tg iter wi) (hg:∀fp C s H,PG (cxB X scope tgs fp C s H) tg g) (hgk:GK tgs.length g)
  (hif:∀fp C s H,WT (cxB X scope tgs fp C s H) co tc) (he:∀fp C s H,PE (cxB X scope tgs fp C s H) elt te)
  (hsw:swapsWith (.ListComp elt [⟨tg,iter,co.toList,0⟩] scope pos) (some (.Name y py)) spos.line X.env=pure true:=by rfl) (hs:∀x,foldedSetIterable iter X.env x=pure x:=by intro _;rfl) :
  PS X (.Assign [.Name y py] (.ListComp elt [⟨tg,iter,co.toList,0⟩] scope pos) spos) (SC (Le tgs ix wi g tc te) (EH i)):=by
 intro pins s σ H D0 I h;rw[exec_Assign_Name_used _ _ _ _ hsw];refine AAA (wpAny_standAt (AAA ?_));show wpAny _ X.A (do let _ ←comprehension (.ListComp elt [⟨tg,iter,co.toList,0⟩] scope pos) scope X.env _ (newList []) false (eval iter X.env) (some (assign (.Name y py) X.env))) _ _ s;refine AAA (AAj (wpAny_comprehension_free (use:=some (assign (.Name y py) X.env)) (Q:=λ_ s'=>SP X pins D0 .next s') rfl hs (CU (S.cells I.ok)) S.kind S.loc ?_) (λ_ s' hq=>AAB (AAB hq)) λ_ _ e=>e);refine thn (hi pins s σ H _ I h) λv s1 h1=>thn h1 λitv s2 h2=>?_;obtain⟨it,fp,tn,J,H2,e,I2,T,t0,f2,W,w0,turn⟩:=h2;subst e;refine Mw (Q:=λx H1=>EH i x σ H1 D0.nx) (RR:=λacc C=>compPost (model X.prog X.w) X.A X.xe (some (assign (.Name y py) X.env)) (λ_ s'=>SP X pins D0 .next s') acc C) S hc hg hgk hif he I2 T t0 f2 W w0 turn ?_;intro D C s' H' m J1 q hn fC;obtain⟨f0,f1,f2,f3,f4,f5⟩:=fC;show wpAny _ X.A (assign (.Name y py) X.env (.ref D)) _ _ _;refine wpAny_assign_Name (Gb (v:=.ref D) J1 hN hiN (.inl hy) rfl (λs'' I'' hsb=>?_) (.inr hy));obtain⟨a,sb,ha⟩:=hsb;have hCa:C≠a:=by
  rcases ha with z|z
  ·rw[z];exact f1
  ·exact Ne.symm (f4 y a z)
 exact⟨m,hn.sameBut sb hCa,λh' sb'=>⟨_,H',I''.turned (t':=s''.toks) (λb o hb e=>(sb'.2 b hb).trans e) f0 f1 f3 f4 f5,q⟩⟩
end
end L2
namespace Mi
open PySem L2
section
variable{X:Cx}{scope:Scope}{tgs:List Str}{ix:List Nat}{elt iter:Expr}{pos:Pos}
theorem Lz(co:Option Expr)(k:Nat)(hN:X.N.Nodup)(S:BScope X scope tgs ix)(hc:X.calm=true)(hi:RI X (.Tuple es kk tp) iter src)(hg:∀fp C s H,PGs (cxB X scope tgs fp C s H) es (Eo is))(hif:∀fp C s H,WT (cxB X scope tgs fp C s H) co (tT X.kw mc))(he:∀fp C s H,RE (cxB X scope tgs fp C s H) elt me)
  (hfin:∀ι μ μ' H ds vs d (Q:VK),RelH X.kw ι μ H->IsL X.kw ι μ.length H ds vs->fin ds μ=some (d,μ')->(Aft X.kw ι μ H μ' λι' H'=>∀v,Is X.kw ι' μ'.length H' d v->Q v H')->vs.length<=sizeLine/\∀p,H p=none->Q (.ref p) (upd H p (.lst vs)))
  (hlen:∀fp C s H,(assignEach es (cxB X scope tgs fp C s H).env).length=is.length:=by intro _ _ _ _;rfl) (hst:∀fp C s H,(assignEach es (cxB X scope tgs fp C s H).env).findIdx? (·.1)=none:=by intro _ _ _ _;rfl)
  (hiN:X.N[k]?=some y:=by rfl) (hy:X.env.scope.names.lookup y=some .local:=by rfl) (hin:∀i∈is,i<tgs.length:=by decide) (hn:tgs.length=n:=by rfl)
  (hsw:swapsWith (.ListComp elt [⟨.Tuple es kk tp,iter,co.toList,0⟩] scope pos) (some (.Name y py)) spos.line X.env=pure true:=by rfl) (hs:∀x,foldedSetIterable iter X.env x=pure x:=by intro _;rfl) :
  RS X (.Assign [.Name y py] (.ListComp elt [⟨.Tuple es kk tp,iter,co.toList,0⟩] scope pos) spos) (Bl (Cd n ix src (CN is) mc me fin) (Aq k)):=
 RS.wk (L9 co (te:=tE X.kw me) hN hiN hy S hc hi.pe (λfp C s H=>S8 (X:=cxB X scope tgs fp C s H) hc (hg fp C s H) (hlen fp C s H) (hst fp C s H)) (Yh hin) hif (λfp C s H=>(he fp C s H).pe) hsw hs) λDn σ H h=>by
  obtain⟨ι,μ,τ,f,τ',μ',R,S,e,q⟩:=h;obtain⟨x,μ1,e1,e⟩:=AL e;obtain⟨τ1,μ2,e2,e⟩:=AL e;cases e2;cases e;refine R9 hn (λ_ _ _ _ h=>Xg h) hfin ⟨ι,μ,τ,x,_,R,S,e1,λι1 H1 E1 R1 v i1=>?_⟩;exact q ι1 H1 E1 R1 _ ((S.ext E1).set k i1)
end
section
variable{K:KW}{ι:Nat->Addr}{k:Nat}{H:Hp}
theorem ClsAt.eq(a:ClsAt K c C)(b:ClsAt K c C'):C=C':=by
 unfold ClsAt at a b;rw[a] at b;cases b;rfl
theorem FVs.lookup:∀{l:List (Str×D)} {r:List (Str×V)} {d:D},FVs K ι k H l r->l.lookup f=some d->∃v,r.lookup f=some v/\Is K ι k H d v
 |[],_,_,_,e=>by cases e
 |(y,d0)::l,_,d,h,e=>by
  obtain⟨v,r',rfl,h1,h2⟩:=h;rw[List.lookup_cons] at e ⊢;cases q:f==y with
  |true=>rw[q] at e;cases e;exact⟨v,rfl,h1⟩
  |false=>rw[q] at e;exact FVs.lookup h2 e
theorem FVs.none:∀{l:List (Str×D)} {r:List (Str×V)},FVs K ι k H l r->l.lookup f=none->r.lookup f=none
 |[],_,h,_=>by cases h;rfl
 |(y,d0)::l,_,h,e=>by
  obtain⟨v,r',rfl,h1,h2⟩:=h;rw[List.lookup_cons] at e ⊢;cases q:f==y with
  |true=>rw[q] at e;cases e
  |false=>rw[q] at e;exact FVs.none h2 e
theorem FVs.len:∀{l:List (Str×D)} {r:List (Str×V)},FVs K ι k H l r->r.length=l.length
 |[],_,h=>by cases h;rfl
 |(y,d0)::l,_,h=>by
  obtain⟨v,r',rfl,h1,h2⟩:=h;simp[FVs.len h2]
noncomputable def Jr(f:Str)(d:D):List (Str×D)->List (Str×D)
 |[]=>[(f,d)]
 |(y,x)::l=>if y=f then (y,d)::l else (y,x)::Jr f d l
theorem FVs.put(i:Is K ι k H d v):∀{l:List (Str×D)} {r:List (Str×V)},FVs K ι k H l r->FVs K ι k H (Jr f d l) (Dt f v r)
 |[],_,h=>by cases h;exact⟨v,[],rfl,i,rfl⟩
 |(y,d0)::l,_,h=>by
  obtain⟨w,r',rfl,h1,h2⟩:=h;unfold Jr Dt;by_cases e:y=f
  ·rw[if_pos e,if_pos e];exact⟨v,r',rfl,i,h2⟩
  ·rw[if_neg e,if_neg e];exact⟨w,_,rfl,h1,FVs.put i h2⟩
end
noncomputable def Pq(c:Str):D->M (Nat×List (Str×D))
 | .ref n=>λμ=>match μ[n]? with
  |some (.ins c' l)=>if c'=c then some ((n,l),μ) else none
  |_=>none
 |_=>BK
theorem Fm(R:RelH K ι μ H)(i:Is K ι μ.length H d v)(e:Pq c d μ=some (r,μ')):
  μ'=μ/\d=.ref r.1/\μ[r.1]?=some (.ins c r.2)/\v=.ref (ι r.1)/\∃C dx fs,H (ι r.1)=some (.ins C dx fs)/\ClsAt K c C/\H dx=some (.own (ι r.1))/\FVs K ι μ.length H r.2 fs:=by
 cases d with
 |ref n=>
  have e1:(match μ[n]? with|some (.ins c' l)=>if c'=c then some ((n,l),μ) else none|_=>none)=some (r,μ'):=e;clear e;split at e1
  ·rename_i c' l hq;split at e1
   ·rename_i hc;cases e1;rw[hc] at hq;unfold Is at i;obtain⟨u,h1,C,dx,fs,rfl,h2,h3,h4⟩:=R.obj n _ hq;exact⟨rfl,rfl,hq,i.2,C,dx,fs,h1,h2,h3,h4⟩
   ·cases e1
  ·cases e1
 |_=>cases e
structure CA(K:PySem.W.Frag)(c:Str)(C:Addr):Prop where
 at_:ClsAt K c C
 cl:Cls K C
noncomputable def CC(c f:Str)(d:D):M D:=bnd (Pq c d) λr=>λμ=>(r.2.lookup f).map λx=>(x,μ)
noncomputable def IB(c f:Str)(mo mv:Sl->M D):Sl->M (Fl×Sl):=λτ=>bnd (mv τ) λy=>bnd (mo τ) λx=>bnd (Pq c x) λr=>λμ=>if r.2.length<1000 then some ((.next,τ),μ.set r.1 (.ins c (Jr f y r.2))) else none
noncomputable def PK(c:Str)(φ:List D->M D):List D->M D:=λds μ=>match φ (.ref μ.length::ds) (μ++[.ins c []]) with
 |some (.non,μ')=>some (.ref μ.length,μ')
 |_=>none
noncomputable def CS(c m:Str)(φ:List D->M D)(mo:Sl->M D)(ma:Sl->M (List D)):Sl->M D:=λτ=>bnd (mo τ) λx=>bnd (Pq c x) λr=>if r.2.lookup m=none then bnd (ma τ) λds=>φ (x::ds) else BK
structure Ini(P:Program)(w:World)(K:PySem.W.Frag)(mg:Str->Option Value)(base:Heap)(c:Str)(ps:List Str)(k:Nat)(φ:List D->M D):Prop where
 len:∀ds μ r,φ ds μ=some r->ds.length=ps.length
 ex:∃C f fd,ClsAt K c C/\mg c=some (.ref C)/\Mk K C f/\FnOk P w K mg base CX0 k f fd ps (spM ⟨K,w⟩ ps.length φ)/\Binds K fd ps []
structure Mth(P:Program)(w:World)(K:PySem.W.Frag)(mg:Str->Option Value)(base:Heap)(c m:Str)(ps:List Str)(k:Nat)(φ:List D->M D):Prop where
 len:∀ds μ r,φ ds μ=some r->ds.length=ps.length
 ex:∃C f fd,CA K c C/\WV K C m f/\FnOk P w K mg base CX0 k f fd ps (spM ⟨K,w⟩ ps.length φ)/\Binds K fd ps []
section
variable{X:Cx}{e o value:Expr}{es:List Expr}{pos p pos' apos:Pos}{c f:Str}{C:Addr}
theorem BB(ca:CA X.kw c C)(na:NoAttr X.kw C f)(he:RE X e m)(hb:attributeBase e f X.env (eval e X.env)=eval e X.env:=by rfl):RE X (.Attribute e f pos) (mUn (CC c f) m):=RE.wk (YC he.pe hb) λσ H Q h=>by
 obtain⟨ι,μ,τ,d,μ',R,S,ev,q⟩:=h;obtain⟨x,μ1,e1,e2⟩:=AL ev;obtain⟨r,μ2,e3,e4⟩:=AL e2;refine⟨ι,μ,τ,x,μ1,R,S,e1,λι1 H1 E1 R1 v1 i1=>?_⟩;obtain⟨hm,_,g1,rfl,C',dx,fs,g2,g3,g4,g5⟩:=Fm R1 i1 e3;subst hm;cases ca.at_.eq g3;cases hl:r.2.lookup f with
 |none=>rw[hl] at e4;cases e4
 |some x0=>
  rw[hl] at e4;cases e4;obtain⟨v,hv,iv⟩:=g5.lookup hl;exact⟨_,C,dx,fs,v,rfl,g2,ca.cl,na,hv,q ι1 H1 E1 R1 v iv⟩
theorem Ge(ca:CA X.kw c C)(na:NoAttr X.kw C f)(ho:RE X o mo)(hv:RE X value mv)(hs:swapsWith value (some (.Attribute o f pos')) pos.line X.env=pure false:=by rfl):RS X (.Assign [.Attribute o f pos'] value pos) (IB c f mo mv):=RS.wk (Xz ho.pe hv.pe hs) λDn σ H h=>by
 obtain⟨ι,μ,τ,fl,τ',μ',R,S,ev,q⟩:=h;obtain⟨y,μ1,e1,ee1⟩:=AL ev;obtain⟨x,μ2,e2,ee2⟩:=AL ee1;obtain⟨r,μ3,e3,ee3⟩:=AL ee2;refine⟨ι,μ,τ,y,μ1,R,S,e1,λι1 H1 E1 R1 v1 i1=>⟨ι1,μ1,τ,x,μ2,R1,S.ext E1,e2,λι2 H2 E2 R2 v2 i2=>?_⟩⟩;obtain⟨hm,_,g1,rfl,C',dx,fs,g2,g3,g4,g5⟩:=Fm R2 i2 e3;subst hm;cases ca.at_.eq g3;have ee3:(if r.2.length<1000 then some ((Fl.next,τ),List.set μ3 r.1 (MO.ins c (Jr f y r.2))) else none)=some ((fl,τ'),μ'):=ee3;split at ee3
 ·rename_i hl;cases ee3;have hlt:r.1<List.length μ3:=(AAU.mp g1).1;obtain⟨E4,R4⟩:=R2.changed (m:=.ins c (Jr f y r.2)) (o:=.ins C dx (Dt f v1 fs)) hlt ⟨C,dx,_,rfl,ca.at_,g4,FVs.put (i1.ext E2) g5⟩;exact⟨_,C,dx,fs,rfl,g2,ca.cl,na,by rw[g5.len];exact hl,q ι2 _ ((E1.trans E2).trans E4) R4 σ (S.ext ((E1.trans E2).trans E4))⟩
 ·cases ee3
theorem O3(F:Ini X.prog X.w X.kw X.mg X.base c ps k φ)(hr:Room j X.A)(ha:RA X (e::es) m)(hkj:k+1<=j:=by decide)(hg:Gl X c:=by rfl)(hdb:(c==("__debug__" : Str))=false:=by decide)
  (he:starEach (e::es) X.env=(false,eval e X.env)::starEach es X.env:=by exact As rfl) (hpl:(backTo pos (starEach es X.env)).any (·.1)=false:=by exact BU rfl):RE X (.Call (.Name c p) (e::es) [] pos) (BS (PK c φ) m):=by
 obtain⟨len,C,f,fd,hc,hm,M,F,hb⟩:=F;refine RE.wk (Vd M F (hr.mono hkj) hg hm hb .nil TK ha.pe hdb he hpl) λ_ _ _ q=>Dk q λι μ μ' H ds vs d R i ev q=>?_;intro x dx hx hdx hne;unfold PK at ev;split at ev
 ·rename_i μ1 hφ;cases ev;obtain⟨E1,R1⟩:=R.laid (.own x) hdx;have hx1:upd H dx (.own x) x=none:=by rw[A5 (Ne.symm hne)];exact hx
  obtain⟨ι',E2,R2,e0⟩:=R1.grown (m:=.ins c []) (o:=.ins C dx []) hx1 ⟨C,dx,[],rfl,hc,BJ,rfl⟩;have hlen:=len _ _ _ hφ;refine⟨by rw[AAI,AAH,List.length_nil,Nat.add_zero,i.length,←hlen];rfl,ι',_,_,_,_,R2,.cons (v:=.ref x) (by unfold Is;exact⟨by simp,by rw[e0]⟩) (by rw[AAa];exact i.ext (E1.trans E2)),hφ,λι3 H3 E3 R3 v iv=>?_⟩;unfold Is at iv;refine⟨iv,q ι3 H3 ((E1.trans E2).trans E3) R3 (.ref x) ?_⟩;unfold Is;have hl:μ.length<(μ++[MO.ins c []]).length:=by simp
  exact⟨AAN hl E3.le,by rw[E3.agree _ hl,e0]⟩
 ·cases ev
theorem B3(F:Mth X.prog X.w X.kw X.mg X.base c mm ps k φ)(hr:Room j X.A)(ho:RE X o mo)(ha:RA X (e::es) ma)(hkj:k<=j:=by decide)
  (hst:starEach (e::es) X.env=(false,eval e X.env)::starEach es X.env:=by exact As rfl) (hpl:(backTo pos (starEach es X.env)).any (·.1)=false:=by exact BU rfl)
  (ht:eval (.Call (.Attribute o mm apos) (e::es) [] pos) X.env=(do
   let ov ←eval o X.env
   standAt apos.atName
   let (f,first) ←holding [ov] (getMethod ov mm pl)
   callWith pos f first (backTo pos (starEach (e::es) X.env)) (backToKw pos (keywordEach [] X.env))):=by rfl):RE X (.Call (.Attribute o mm apos) (e::es) [] pos) (CS c mm φ mo ma):=by
 obtain⟨len,C,f,fd,ca,M,F,hb⟩:=F;refine RE.wk (Vc (pl:=pl) ho.pe ca.cl M F (hr.mono hkj) hb .nil TK ha.pe hst hpl ht) λσ H Q h=>?_;obtain⟨ι,μ,τ,d,μ',R,S,ev,q⟩:=h;obtain⟨x,μ1,e1,e2⟩:=AL ev;obtain⟨r,μ2,e3,e4⟩:=AL e2;refine⟨ι,μ,τ,x,μ1,R,S,e1,λι1 H1 E1 R1 v1 i1=>?_⟩;obtain⟨hm,ex,g1,rfl,C',dx,fs,g2,g3,g4,g5⟩:=Fm R1 i1 e3;subst hm;cases ca.at_.eq g3;split at e4
 ·rename_i hl;obtain⟨ds,μ3,e5,e6⟩:=AL e4;refine⟨_,dx,fs,rfl,g2,g5.none hl,ι1,μ2,τ,ds,μ3,R1,S.ext E1,e5,λι2 H2 E2 R2 vs i2=>?_⟩;have hlen:=len _ _ _ e6;exact⟨by rw[AAI,AAH,List.length_nil,Nat.add_zero,i2.length,←hlen];rfl,ι2,_,_,_,_,R2,.cons (i1.ext E2) (by rw[AAa];exact i2),e6,λι3 H3 E3 R3 v iv=>q ι3 H3 ((E1.trans E2).trans E3) R3 v iv⟩
 ·cases e4
end
noncomputable def NAs(K:PySem.W.Frag)(C:Addr):List Str->Prop
 |[]=>True
 |x::r=>PySem.W.findIn K (.ref C) x=some none/\NAs K C r
theorem NAs.all:∀{fl:List Str},NAs K C fl->∀x∈fl,NoAttr K C x
 |[],_,_,h=>nomatch h
 |y::r,n,x,h=>by
  rcases AAJ.mp h with rfl|h
  ·exact n.1
  ·exact NAs.all n.2 x h
structure Dc(K:PySem.W.Frag)(c:Str)(fl:List Str)(C:Addr):Prop where
 ca:CA K c C
 na:∀x∈fl,NoAttr K C x
structure Di(K:PySem.W.Frag)(c qual:Str)(st:Stmt)(C f:Addr)(fd:FuncData):Prop where
 at_:ClsAt K c C
 mak:Mk K C f
 F:Fun K "__init__" qual st f fd
structure Dm(K:PySem.W.Frag)(c m qual:Str)(st:Stmt)(C f:Addr)(fd:FuncData):Prop where
 ca:CA K c C
 me:WV K C m f
 F:Fun K m qual st f fd
section
variable{K:PySem.W.Frag}{c qual:Str}{st:Stmt}{C f:Addr}{fl:List Str}{oc:Value}{od an:Option Addr}{osl:Array (Option Value)}{kV doc pm cdv ct:Value}
theorem aP(a:PySem.W.nsIn K mainGlobals c=some (some (.ref C)))(pg:PySem.W.plainGet K C Str.empty=true)(hd:PySem.W.hasDictIn K C=true)(po:PySem.W.plainOver K C=true)(sa:PySem.W.findIn K (.ref C) "__setattr__" = some (some (.builtin "object.__setattr__")))(na:NAs K C fl):∃C,Dc K c fl C:=
 ⟨C,⟨a,⟨pg,hd,po,sa⟩⟩,na.all⟩
theorem aN(a:PySem.W.nsIn K mainGlobals c=some (some (.ref C)))(mk:PySem.W.makesIn K C=true)(ini:PySem.W.findIn K (.ref C) "__init__" = some (some (.ref f)))(fn:PySem.W.isFn K (.ref f)=true)(kc:PySem.W.keepIn K (.ref C)=true)
  (l:K.lookup f=some ⟨oc,od,.func (PySem.W.fnOf "__init__" qual (D3 st) (Bv st) (AT st) .none kV doc pm an cdv ct),osl⟩) (cd:PySem.W.codeIn K cdv qual=true) (k:PySem.W.keepIn K (.ref f)=true):∃C f fd,Di K c qual st C f fd:=⟨C,f,_,a,⟨mk,ini,fn,kc⟩,N4 l cd k⟩
end
noncomputable def J9(st:Stmt)(j:Nat):Stmt:=match st with
 | .ClassDef _ _ _ body _ _ _ _ _ _ _=>body.getD j (.Pass ⟨0,0,0,0⟩)
 |_=>.Pass ⟨0,0,0,0⟩
end Mi
namespace L2
open PySem PySem.Spec PyProof.Rows Sem Ht
theorem Uw(l:Addr)(items:Array Value)(t:Tok)(h0:items.isEmpty=false):
  Meets (Builtin.«tuple.__mul__» ⟨[.ref l,.int 0 t],[]⟩) (λ_ R s=>IsTup s.heap l items/\R (.ok (.ret (.ref s.heap.objs.size))) { s with heap:=s.heap.push { cls:=.type "tuple",data:=.seq #[] } }):=
 .of_wp λprog w A R s h=>by
  obtain⟨⟨o,ho,hc,n,hd⟩,q⟩:=h;have hT:s.TypeIs (.ref l) "tuple" := ⟨o,ho,hc⟩;unfold Builtin.«tuple.__mul__»
  wp_walk
  rw[hd];refine AAB (AAB ?_);dsimp only;rw[h0];have c2:(false||(0:Int)==1)=false:=by decide
  rw[c2];simp only[Bool.false_eq_true,↓reduceIte];have c3:(decide ((0:Int)<=0)||false)=true:=by decide
  rw[c3];simp only[↓reduceIte];unfold Builtin.Tuple.tupleExact;exact AAA (AAq (AAB ⟨_,rfl,q⟩))
section
variable{X:Cx}
theorem TN:OpR X (binaryOp .Mult) (λx y H Q=>∃l xs,x=.ref l/\y=.int 0/\SqT X.kw H l xs/\xs≠[]/\∀p,H p=none->Q (.ref p) (upd H p (.tup []))):=by
 intro pins s σ H x y v u Q I rx ry h;obtain⟨l,xs,rfl,rfl,ha,hx,q⟩:=h;cases rx;obtain⟨t,rfl⟩:=ry;obtain⟨its,r,p,_⟩:=I.tuple ha;have hlen:=r.length;have hT:s.TypeIs (.ref l) "tuple" := by
  obtain⟨o,e,c,_⟩:=p;exact⟨o,e,c⟩
 have he:its.toArray.isEmpty=false:=by
  cases its with
  |nil=>exact absurd (List.length_eq_zero_iff.mp (by simpa using hlen)) hx
  |cons a b=>rfl
 refine wpAny_binaryOp_repeat_ref (T := "tuple") (U := "int") (by decide) hT (λs'=>typeIs_int s' 0 t) Ob PySem.F.fills_int_mul PySem.F.slot_int_rmul Rx PySem.F.slot_int_index.lookup ?_;refine call_meets PySem.F.slot_int_rmul (typeIs_int s 0 t) PySem.F.entry_int_rmul (PySem.F.args_int_rmul_2 _ _) (Ry 0 t l its.toArray) ⟨p,rfl,hT,?_⟩;refine call_meets PySem.F.slot_tuple_mul hT PySem.F.entry_tuple_mul (PySem.F.args_tuple_mul_2 _ _) (Uw l its.toArray t he) ⟨p,?_⟩;exact⟨.ref s.heap.objs.size,_,I.laid (t':=s.toks) (o:=.tup []) (λb ob z=>AAC _ z) (AAF _) ⟨by simp,[],.nil,IsTup.new _ _⟩,rfl,q _ (I.hok.fresh (AAF _))⟩
end
end L2
namespace Mi
open PySem L2 Ht
noncomputable def IF(a b:D):M D:=match a,b with
 | .tup (x::ds),.int 0=>λμ=>some (.tup [],μ)
 |a,b=>Nb a b
section
variable{X:Cx}
theorem Ni:OpR X (binaryOp .Mult) (rM X.kw IF):=λpins s σ H x y v u Q I rx ry h=>by
 obtain⟨ι,μ,a,b,d,μ',R,ia,ib,e,q⟩:=h;unfold IF at e;split at e
 ·rename_i z ds;cases e;have zb:=BX ib;subst zb;unfold Is at ia;obtain⟨p,vs,rfl,h1,h2⟩:=ia;have hl:=h2.length;refine TN pins s σ H _ _ v u Q I rx ry ⟨p,vs,rfl,rfl,h1,λn=>by rw[n] at hl;simp at hl,?_⟩;exact MQ R IsL.nil q
 ·exact YR pins s σ H _ _ v u Q I rx ry ⟨ι,μ,a,b,d,μ',R,ia,ib,e,q⟩
end
end Mi
set_option maxHeartbeats 2000000
namespace Xt
open PySem PySem.Spec PyProof.Rows Sem L2 Ht
theorem GZ:∀{vs us:List Value},vs.Perm us->∀{ks:List Str},StrsAre us ks->∃ms,StrsAre vs ms/\ms.Perm ks:=by
 intro vs us p
 induction p with
 |nil=>exact λh=>⟨_,h,.refl _⟩
 |cons x _ ih=>
  intro ks h;cases h with
  |cons y t h=>exact(ih h).elim λm z=>⟨y::m,.cons y t z.1,z.2.cons y⟩
 |swap x y l=>
  intro ks h;cases h with
  |cons a t h=>
   cases h with
   |cons b u h=>exact⟨_,.cons b u (.cons a t h),.swap a b _⟩
 |trans _ _ i1 i2=>
  intro ks h;obtain⟨m,a,b⟩:=i2 h;obtain⟨n,c,d⟩:=i1 a;exact⟨n,c,d.trans b⟩
theorem SJ(t:SetTable)(n:Nat):(t.orStandIn n).led=t.led:=by
 unfold SetTable.orStandIn SetTable.standIn;split<;>rfl
theorem NW(t:SetTable)(n:Nat)(h:t.plain=false):(t.orStandIn n).plain=false:=by
 unfold SetTable.orStandIn SetTable.standIn;split
 ·exact h
 ·rfl
theorem Vx(t:SetTable)(es:Array (Int×Value))(h:Int)(x:Value):(layNew t es h x).2.1.led=t.led/\(t.plain=false->(layNew t es h x).2.1.plain=false):=by
 unfold layNew;split
 ·exact⟨SJ _ _,λz=>NW _ _ z⟩
 ·exact⟨rfl,λ_=>rfl⟩
theorem QN(t:SetTable)(es:Array (Int×Value))(n:Nat):(relayAll t es n).2.1.led=t.led/\(t.plain=false->(relayAll t es n).2.1.plain=false):=by
 unfold relayAll;split
 ·rename_i t' order e;have f:t'.led=t.led/\t'.plain=t.plain:=by
   unfold SetTable.relaid SetTable.laid at e;simp only[Option.bind_eq_bind,Option.bind_eq_some_iff] at e;obtain⟨a,_,e⟩:=e;cases e;exact⟨rfl,rfl⟩
  dsimp only;split
  ·exact⟨f.1,λz=>f.2.trans z⟩
  ·exact⟨rfl,λ_=>rfl⟩
 ·exact⟨rfl,λ_=>rfl⟩
def SetT(prog:Program)(w:World)(h:Heap)(a:Addr)(ks:List Str):Prop:=
 ∃o es ep t,h.get? a=some o/\o.ExactSet/\o.data=.set es ep t/\ElemsOf (PySem.strKind prog w) es.toList/\(∃ns,StrsAre (es.toList.map (·.2)) ns/\ns.Perm ks)/\t.fits es.size=true/\t.led=!(w.params.followText "set-order")/\(es.size≠0->t.plain=false)
theorem SetT.at(z:SetT prog w h a ks)(k:∀o,h.get? a=some o->h'.get? a=some o):SetT prog w h' a ks:=by
 obtain⟨o,es,ep,t,e,BG⟩:=z;exact⟨o,es,ep,t,k o e,BG⟩
theorem Jf{l:Array (Int×Value)}(h:StrsAre (l.toList.map (·.2)) ns)(p:ns.Perm ks):l.size=ks.length:=by
 rw[←p.length_eq,←h.length,AAG,Array.length_toList]
theorem Uy(prog:Program)(w:World):∀{l:List (Int×Value)},StrsAre (l.map (·.2)) ks->∀k:Str,(∃e∈l,(PySem.strKind prog w).is k e.2=true)↔k∈ks:=by
 intro l
 induction l generalizing ks with
 |nil=>intro h k;cases h;simp
 |cons e l ih=>
  intro h k;obtain⟨a,v⟩:=e;have h0:StrsAre (v::l.map (·.2)) _:=h;clear h;cases h0 with
  |cons y t h1=>
   have:=ih h1 k;have hy:(PySem.strKind prog w).is k (.str y t)=true↔k=y:=by
    rw[KeyKind.is_eq_decide (strKind_is prog w y t) k,decide_eq_true_iff]
   rw[AAJ,←this];constructor
   ·rintro⟨e,he,q⟩;rcases AAJ.mp he with rfl|he
    ·exact .inl (hy.mp q)
    ·exact .inr ⟨e,he,q⟩
   ·rintro(z|⟨e,he,q⟩)
    ·exact⟨_,AAQ,hy.mpr z⟩
    ·exact⟨e,AAR _ he,q⟩
section
variable{prog:Program}{w:World}{A:Around}{E:Value->Shared->Prop}{s:Shared}
set_option hygiene false in
local macro_rules | `(tactic| wtm_at "m")=>`(tactic| (
 refine AAA (wpAny_storeSet_of (s:={ s with toks:=s.toks+1 }) ho hd ?_ (by rw[sizeLine_eq];unfold scanBound at room;omega));have ho1:=HZ ho hd es1 t2;have sb1:=Heap.SameBut.update s.heap a (Obj.putSet es1 t2);by_cases hf:(!wd&&t2.tooFull)=true
 ·rw[if_pos hf];have rp:=relayAll_perm t2 es1 (SetTable.grown es1.size);have rf:=relayAll_fits t2 es1 (SetTable.grown es1.size);have rl:=QN t2 es1 (SetTable.grown es1.size);generalize relayAll t2 es1 (SetTable.grown es1.size)=ry at rp rf rl;obtain⟨es3,t3,gv3⟩:=ry;dsimp only at rp rf rl ⊢;have s3:es3.size=es1.size:=by simpa using rp.length_eq
  cases gv3
  all_goals
   first
    |refine AAA (AAB ?_)
    |refine AAA (wpAny_rule ?_)
   refine AAA (wpAny_storeSet_of (s:={ s with heap:=s.heap.update a (Obj.putSet es1 t2),toks:=s.toks+1 }) ho1 rfl ?_ (by rw[sizeLine_eq];unfold scanBound at room;omega));exact AAB (AAB (wrap es3 t3 _ o _ _ (sb1.trans (Heap.SameBut.update _ a _)) (HZ ho1 rfl es3 t3) rp rf (rl.1.trans fl.2.1) (rl.2 fl.2.2)))
 ·rw[if_neg hf];exact AAB (AAB (wrap es1 t2 _ o _ _ sb1 ho1 (.refl _) fl.1 fl.2.1 fl.2.2))))
theorem SL(hS:SetT prog w s.heap a ks)(room:ks.length+1<scanBound)
  (q:∀b h' tk,Heap.SameBut a s.heap h'->SetT prog w h' a (if x∈ks then ks else ks++[x])->Q b { s with heap:=h',toks:=tk }) :
  wpAny (model prog w) A (setAdd a (.str x tk)) Q E s:=by
 obtain⟨o,es,ep,t,ho,hex,hd,hel,⟨ns,hen,hp⟩,hfit,hled,hpl⟩:=hS;have hsz:=Jf hen hp;have hb:es.size<scanBound:=by omega
 have kx:=strKind_is prog w x tk;unfold setAdd;refine AAo (AAA ((PySem.strKind prog w).pyHash kx ?_));unfold setAddHashed setAddHashedIn;refine AAo (AAA (AAi (s:={ s with toks:=s.toks+1 }) ho hd hfit ?_));dsimp only;rw[byScan_of (knd:=PySem.strKind prog w) rfl hb hel];simp only[↓reduceIte];unfold setAddByScan;refine AAA ?_;refine AAA (wpAny_rule ?_);refine AAA (wpAny_setScan_of (knd:=PySem.strKind prog w) (s:={ s with toks:=s.toks+1 }) kx ho hd hfit hel ?_);have mem:=Uy prog w hen x;rw[hp.mem_iff] at mem;cases hr:List.findIdx? (λe=>(PySem.strKind prog w).is x e.2) es.toList with
 |some j=>
  dsimp only;obtain⟨hj,hpj,_⟩:=List.findIdx?_eq_some_iff_getElem.mp hr;rw[if_pos (mem.mp ⟨_,List.getElem_mem hj,hpj⟩)] at q;exact AAB (AAB (q _ s.heap _ (Heap.SameBut.refl a s.heap) ⟨o,es,ep,t,ho,hex,hd,hel,⟨ns,hen,hp⟩,hfit,hled,hpl⟩))
 |none=>
  dsimp only;have hm:x∉ks:=λz=>by
   obtain⟨e,he,hq⟩:=mem.mpr z;rw[List.findIdx?_eq_none_iff.mp hr e he] at hq;cases hq
  rw[if_neg hm] at q;have lp:=layNew_perm t es ((PySem.strKind prog w).hash x) (.str x tk);have lf:=layNew_fits t es ((PySem.strKind prog w).hash x) (.str x tk);have ll:=(Vx t es ((PySem.strKind prog w).hash x) (.str x tk)).1;generalize layNew t es ((PySem.strKind prog w).hash x) (.str x tk)=lay at lp lf ll;obtain⟨es1,t1,wd,gv⟩:=lay;dsimp only at lp lf ll ⊢;have s1:es1.size=es.size+1:=by simpa using lp.length_eq
  rw[Array.toList_push] at lp;have hel1:ElemsOf (PySem.strKind prog w) es1.toList:=(hel.push kx rfl).perm lp;have hen0:StrsAre ((es.toList++[((PySem.strKind prog w).hash x,Value.str x tk)]).map (·.2)) (ns++[x]):=by
   rw[AAY];exact StrsAre.append' hen (.cons x tk .nil)
  obtain⟨ms,hen1,hp1⟩:=GZ (lp.map (·.2)) hen0;have hp2:ms.Perm (ks++[x]):=hp1.trans (hp.append_right [x]);have wrap:∀(es2:Array (Int×Value)) (t2:SetTable) (h':Heap) (o2:Obj) (ep2:Nat) (n2:Nat),Heap.SameBut a s.heap h'->h'.get? a=some { o with data:=.set es2 ep2 t2 }->es2.toList.Perm es1.toList->t2.fits es2.size=true->t2.led=t.led->t2.plain=false->Q true { s with heap:=h',toks:=n2 }:=λes2 t2 h' o2 ep2 n2 sb g pm f l pl=>by
   obtain⟨ls,hen2,hp3⟩:=GZ (pm.map (·.2)) hen1;exact q _ _ _ sb ⟨_,es2,ep2,t2,g,hex,rfl,hel1.perm pm,⟨ls,hen2,hp3.trans hp2⟩,f,l.trans hled,λ_=>pl⟩
  have off:∀n,t1.fits n=true->({ t1 with plain:=false }:SetTable).fits n=true:=λn h=>SetTable.fits_plain_off h;cases gv
  all_goals
   first
    |refine AAA (AAB ?_)
    |refine AAA (wpAny_rule ?_)
   by_cases e:t1.plain=true
   ·rw[if_pos e,hashByValue_scannable 8 (x:=.str x tk) rfl];refine AAA (AAB ?_);have pk:plainKind (.str x tk)=false:=rfl;rw[pk];simp only[Bool.false_eq_true,↓reduceIte];have fl:({ t1 with plain:=false }:SetTable).fits es1.size=true/\({ t1 with plain:=false }:SetTable).led=t.led/\({ t1 with plain:=false }:SetTable).plain=false:=⟨off _ lf,ll,rfl⟩;generalize ({ t1 with plain:=false }:SetTable)=t2 at fl;wtm_at "m"
   ·rw[if_neg e];refine AAA (AAB ?_);simp only[↓reduceIte];have fl:t1.fits es1.size=true/\t1.led=t.led/\t1.plain=false:=⟨lf,ll,by simpa using e⟩;generalize t1=t2 at fl;wtm_at "m"
end
end Xt
set_option maxHeartbeats 2000000
namespace Xt
open PySem PySem.Spec PyProof.Rows Sem L2 Ht
section
variable{prog:Program}{w:World}{A:Around}{E:Value->Shared->Prop}{s:Shared}
theorem QH(hh:A.in1.handled=none)(hlI:l≠I)(hSI:S≠I)(hSl:S≠l)(rv:StrsAre its ss)(room:ss.length+1<scanBound):
  ∀(m i:Nat) (s:Shared),ss.length-i=m->i<=ss.length->s.heap.IsListIter I l i->s.heap.IsList l its.toArray->SetT prog w s.heap S (C5 (ss.take i))->
   (∀h' tk,(∀c o,c≠S->c≠I->s.heap.get? c=some o->h'.get? c=some o)->SetT prog w h' S (C5 ss)->R (.ok (.ret .none)) { s with heap:=h',toks:=tk })->
   codeAny (model prog w) A (.builtin "set.update.loop" ⟨[.ref S,.ref I],[]⟩) R s:=by
 have hl:its.toArray.size=ss.length:=by rw[List.size_toArray];exact rv.length
 have W:=Walks.list (prog:=prog) (w:=w) hh I l hlI its.toArray;rw[hl] at W;intro m
 induction m with
 |zero=>
  intro i s hm hi hit hls hS q;cases (show i=ss.length by omega);refine codeAny_builtin PyProof.Rows.F.entry_set_update_loop ?_;rw[Around.under_plainId PyProof.Rows.F.plain_set_update_loop _];refine AAA (m:=pyNext (.ref I)) (W.done s _ _ ⟨hit,hls⟩ λh' tk kp=>AAB ?_);rw[List.take_length] at hS;exact q h' tk (λc o _ c2 e=>kp c o (by simpa using c2) e) (hS.at λo e=>kp S o (by simpa using hSI) e)
 |succ m ih=>
  intro i s hm hi hit hls hS q;have lt:i<ss.length:=by omega
  refine codeAny_builtin PyProof.Rows.F.entry_set_update_loop ?_;rw[Around.under_plainId PyProof.Rows.F.plain_set_update_loop _];refine AAA (m:=pyNext (.ref I)) (W.item i s _ _ lt ⟨hit,hls⟩ λv h' tk hv st kp=>?_);obtain⟨t,e⟩:=StrsAre.at rv (AAt lt);have hv':its[i]?=some v:=by simpa using hv
  cases e.symm.trans hv';have nb:(if ss[i]∈C5 (ss.take i) then C5 (ss.take i) else C5 (ss.take i)++[ss[i]])=C5 (ss.take (i+1)):=by
   rw[List.take_succ,AAt lt,Option.toList_some,Qc]
  have le:=Vv (ss.take i);rw[List.length_take] at le;refine AAA (AAo (SL (s:={ s with heap:=h',toks:=tk }) (hS.at λo e=>kp S o (by simpa using hSI) e) (by omega) λb h2 t2 sb hS2=>?_));rw[nb] at hS2;have k2:∀c o,c≠S->h'.get? c=some o->h2.get? c=some o:=λc o hc e=>(sb.2 c hc).trans e;refine AAB ⟨plainId_quiet PyProof.Rows.F.plain_set_update_loop _,ih (i+1) _ (by omega) lt (st.1.at λo e=>k2 I o hSI.symm e) (st.2.at λo e=>k2 l o hSl.symm e) hS2 λh3 t3 kp3 hS3=>?_⟩;exact q h3 t3 (λc o c1 c2 e=>kp3 c o c1 c2 (k2 c o c1 (kp c o (by simpa using c2) e))) hS3
theorem call_setX(hh:A.handled=none)(hl:s.heap.IsList l its.toArray)(rv:StrsAre its ss)(room:ss.length+1<scanBound)
  (q:∀h' tk,(∀c o,s.heap.get? c=some o->h'.get? c=some o)->SetT prog w h' s.heap.objs.size (C5 ss)->Q (.ref s.heap.objs.size) { s with heap:=h',toks:=tk }) :
  wpAny (model prog w) A (call (.type "set") [.ref l]) Q E s:=by
 refine PL PySem.F.called_set (PySem.F.typeCall_set_1 _) (Oo (.ref l) (Q:=λx s₁=>x=.ref s.heap.objs.size/\s₁={ s with heap:=s.heap.push (Ay !(w.params.followText "set-order")) }) ⟨rfl,rfl⟩) ?_;rintro x s₁ ⟨rfl,rfl⟩;generalize hled:(!(w.params.followText "set-order"))=led;have at_S:(s.heap.push (Ay led)).get? s.heap.objs.size=some (Ay led):=AAD _ rfl;have ty:Shared.TypeIs { s with heap:=s.heap.push (Ay led) } (.ref s.heap.objs.size) "set" := ⟨_,at_S,rfl⟩;have lt:l<s.heap.objs.size:=by
  obtain⟨o,e,_⟩:=hl;exact Heap.lt_size e
 have hl1:(s.heap.push (Ay led)).IsList l its.toArray:=hl.push _;have tyl:Shared.TypeIs { s with heap:=s.heap.push (Ay led) } (.ref l) "list" := hl1.typeIs;refine⟨ty,codeAny_call_builtin PySem.F.called_set.init.plain PySem.F.entry_set_init (check_set_init_1 ty ?_)⟩;have c1:=PySem.F.sub_list_set;have c2:=PySem.F.sub_list_frozenset;unfold Builtin.«set.__init__» noKeywords Builtin.Frozenset.updateFrom;have walk:∀(A:Around) (E:Value->Shared->Prop) (Q:Value->Shared->Prop),Q (.ref (s.heap.push (Ay led)).objs.size) { s with heap:=(s.heap.push (Ay led)).push { cls:=.type "list_iterator",data:=.fields #[.ref l,.int 0 0] } }->wpAny (model prog w) A (pyIter (.ref l)) Q E { s with heap:=s.heap.push (Ay led) }:=λA E Q z=>wpAny_pyIter_list hl1 z
 wp_walk using walk
 have sz:(s.heap.push (Ay led)).objs.size=s.heap.objs.size+1:=Heap.size_push ..;have far:∀{c:Addr},c<s.heap.objs.size->c≠(s.heap.push (Ay led)).objs.size:=λz=>by rw[sz];exact AAe (AAh z)
 refine QH (l:=l) (ss:=ss) (A:=A.in1.in1) (by simp[hh]) (far lt) (by rw[sz];exact AAe (Nat.lt_succ_self _)) (Nat.ne_of_gt lt) rv room ss.length 0 _ (Nat.sub_zero _) (AAk _) ⟨_,AAD _ rfl,rfl,rfl⟩ (hl1.push _) ?start λh' tk kp hS=>?fin
 case start=>
  refine⟨_,#[],0,_,AAC _ at_S,⟨rfl,rfl,rfl⟩,rfl,?_,⟨[],.nil,.refl _⟩,(Je led).fits,hled.symm,λz=>absurd rfl z⟩;intro e he;cases he
 case fin=>
  exact AAB (AAB ⟨rfl,q h' tk (λc o e=>kp c o (AAe (Heap.lt_size e)) (far (Heap.lt_size e)) (AAC _ (AAC _ e))) hS⟩)
end
end Xt
set_option maxHeartbeats 2000000
namespace Xt
open PySem PySem.Spec PyProof.Rows Sem L2 Ht
noncomputable def itD(T S:Addr)(i n ep:Nat):Obj:={ cls:=.type "set_iterator",data:=.fields #[.ref T,.int i 0,.ref S,.int n 0,.int ep 0] }
noncomputable def plO(ord:List Nat):Obj:={ cls:=.type "tuple",data:=.seq (ord.map λ(i:Nat)=>rawInt i).toArray }
section
variable{prog:Program}{w:World}{A:Around}{E:Value->Shared->Prop}{s:Shared}
theorem Q1(hn:n≠0)(h:∀i d,i<n->Q i { s with drawn:=d }):wpAny (model prog w) A (choose src n) Q E s:=λΓ p _=>⟨hn,h _ _ (Nat.mod_lt _ (Nat.pos_of_ne_zero hn))⟩
theorem Mo:∀(n:Nat) (xs:List α) (s:Shared) {Q:List α->Shared->Prop},xs.length<=n->(∀ys d,ys.Perm xs->Q ys { s with drawn:=d })->wpAny (model prog w) A (drawOrder n xs) Q E s
 |0,xs,s,Q,h,q=>by
  cases xs with
  |nil=>unfold drawOrder;exact AAB (q [] s.drawn (.refl _))
  |cons x xs=>simp at h
 |n+1,[],s,Q,_,q=>by unfold drawOrder;exact AAB (q [] s.drawn (.refl _))
 |n+1,x::xs,s,Q,h,q=>by
  unfold drawOrder;refine AAA (Q1 (by simp) λi d hi=>?_);have e:(x::xs)[i]?=some (x::xs)[i]:=AAt hi;rw[e];dsimp only;refine AAA (Mo n ((x::xs).eraseIdx i) _ (by rw[List.length_eraseIdx_of_lt hi];simp at h ⊢;omega) λys d2 p=>AAB ?_);exact q _ d2 ((p.cons _).trans (Fi _ _ _ e))
theorem Tl(hI:s.heap.get? I=some (itD T S i n ep))(h:Q (.ref I) s):wpAny (model prog w) A (pyIter (.ref I)) Q E s:=by
 have hT:s.TypeIs (.ref I) "set_iterator" := ⟨_,hI,rfl⟩;refine wpAny_pyIter_slot hT HV (AAd HV hT Mm ?_ (NB _));exact AAB ⟨_,rfl, "set_iterator",_,hT,si_next.lookup,h⟩
theorem V8(ho:s.heap.get? S=some o)(hex:o.ExactSet)(hd:o.data=.set es ep t)(hf:t.fits es.size=true)(nf:w.params.followText "set-order" = false)(np:t.plain=false)(n1:1<es.size)(n2:es.size<=1000)
  (h:∀ord d,ord.Perm (List.range es.size)->Q (.ref (s.heap.objs.size+1)) { s with drawn:=d,heap:=(s.heap.push (plO ord)).push (itD s.heap.objs.size S 0 es.size ep) }):wpAny (model prog w) A (pyIter (.ref S)) Q E s:=by
 have hT:s.TypeIs (.ref S) "set" := ⟨_,ho,hex.1⟩;refine wpAny_pyIter_slot hT PySem.F.slot_set_iter (AAd PySem.F.slot_set_iter hT Mn ?_ (PySem.F.args_set_iter_1 _));unfold Builtin.«frozenset.__iter__» Builtin.Frozenset.slot0 Builtin.Frozenset.sizeOf setEntries setDrawn setsByText;refine AAA (AAA (AAw (a:=(Value.ref S,[])) rfl (AAB ?_)));refine AAA (AAA (AAA (AAi ho hd hf (AAB (AAB ?_)))));refine AAA (AAA (AAi ho hd hf ?_));dsimp only;refine AAA (AAA (wpAny_askSetting (AAB (AAB ?_))));dsimp only;have e0:(!(w.params.followText "set-order")&&(!t.plain&&decide (es.size > 1)))=true:=by rw[nf,np];simp[n1]
 split
 ·refine AAA (Mo es.size (List.range es.size) s (by simp) λord d p=>?_);have ol:ord.length<=1000:=by rw[p.length_eq,List.length_range];exact n2
  refine AAA (wpAny_newTuple ?_ (by rw[AAG,sizeLine_eq];omega));refine AAA (wpAny_setEpoch_of (AAC _ ho) hd hf ?_);unfold newFields;refine AAA (AAq ?_);have sz:(s.heap.push (plO ord)).objs.size=s.heap.objs.size+1:=Heap.size_push ..;refine AAB ⟨_,rfl, "set_iterator",_,⟨_,AAD _ rfl,rfl⟩,si_next.lookup,?_⟩;have:=h ord d p;rw[←sz] at this;exact this
 ·rename_i z;exact absurd e0 z
theorem Tm(hI:s.heap.get? I=some (itD T S i es.size ep))(hT:s.heap.get? T=some (plO ord))(ho:s.heap.get? S=some o)(hd:o.data=.set es ep t)(hf:t.fits es.size=true)
  (hj:ord[i]?=some j) (hx:es[j]?=some x)
  (q:∀h',h'.get? I=some (itD T S (i+1) es.size ep)->Heap.SameBut I s.heap h'->Q (some x.2) { s with heap:=h' }) :
  wpAny (model prog w) A (pyNext (.ref I)) Q E s:=by
 have hTy:s.TypeIs (.ref I) "set_iterator" := ⟨_,hI,rfl⟩;unfold pyNext;refine AAA (AAz (wpAny_callSpecial?_slot (name:=Str.ofString "__next__") hTy si_next (AAd si_next hTy GM ?_ (GQ _))));unfold Builtin.«set_iterator.__next__»;refine AAA (AAw (a:=(Value.ref I,[])) rfl ?_);refine AAA (wpAny_fieldsOf hI rfl ?_);dsimp only;unfold setEntries;refine AAA (AAA (AAi ho hd hf (AAB ?_)));dsimp only;have e0:((es.size:Int) != (es.size:Int))=false:=by simp
 rw[e0,if_neg AAg];simp only[Int.toNat_natCast];refine AAA (AAy hT rfl ?_);dsimp only;have pj:(ord.map λ(i:Nat)=>rawInt i).toArray[i]?=some (.int (j:Int) 0):=by simp[hj,rawInt]
 rw[pj];dsimp only;unfold setNextDrawn;refine AAA (AAA (AAi ho hd hf ?_));dsimp only;have e1:(ep != ep)=false:=by simp
 rw[e1,if_neg AAg,Int.toNat_natCast,hx];refine AAB ?_;refine AAA (AAp hI (by simp) λh1 g1 s1=>?_);refine AAB ⟨_,rfl,AAB (q h1 ?_ s1)⟩;rw[g1];simp[itD,rawInt]
theorem V9(hh:A.handled=none)(hI:s.heap.get? I=some (itD T S i es.size ep))(hT:s.heap.get? T=some (plO ord))(ho:s.heap.get? S=some o)(hd:o.data=.set es ep t)(hf:t.fits es.size=true)
  (hj:ord[i]?=none) (q:∀h',(∀b o,b≠I->s.heap.get? b=some o->h'.get? b=some o)->Q none { s with heap:=h' }) :
  wpAny (model prog w) A (pyNext (.ref I)) Q E s:=by
 have hTy:s.TypeIs (.ref I) "set_iterator" := ⟨_,hI,rfl⟩;unfold pyNext;refine AAA (AAz (wpAny_callSpecial?_slot (name:=Str.ofString "__next__") hTy si_next (AAd si_next hTy GM ?_ (GQ _))));unfold Builtin.«set_iterator.__next__»;refine AAA (AAw (a:=(Value.ref I,[])) rfl ?_);refine AAA (wpAny_fieldsOf hI rfl ?_);dsimp only;unfold setEntries;refine AAA (AAA (AAi ho hd hf (AAB ?_)));dsimp only;have e0:((es.size:Int) != (es.size:Int))=false:=by simp
 rw[e0,if_neg AAg];simp only[Int.toNat_natCast];refine AAA (AAy hT rfl ?_);dsimp only;have pj:(ord.map λ(i:Nat)=>rawInt i).toArray[i]?=none:=by simp at hj ⊢;exact hj
 rw[pj];dsimp only;refine AAA (AAp hI (by simp) λh1 g1 s1=>?_);refine AAA (AAp g1 (by simp) λh2 g2 s2=>?_);refine Fd (A:=A.in1) (s:={ s with heap:=h2 }) hh λa h' k ty=>?_;refine AAA (AA0 (T := "StopIteration") (b:=true) ty isSubtype_stop ?_);exact AAB (q h' λb o hb e=>k b o (s2.extBut b o hb (s1.extBut b o hb e)))
theorem XX(hh:A.handled=none)(hSI:S≠I)(hTI:T≠I)(hd:o.data=.set es ep t)(hf:t.fits es.size=true)(hp:ord.Perm (List.range es.size)):
  Walks prog w A I [I,S,T] [I] es.size (λi v=>∃j e,ord[i]?=some j/\es[j]?=some e/\v=e.2) (λi h=>h.get? I=some (itD T S i es.size ep)/\h.get? S=some o/\h.get? T=some (plO ord)) where
 sub:=λb hb=>by simp at hb;simp[hb]
 frame:=λi h h' st k=>⟨k I (by simp) _ st.1,k S (by simp) _ st.2.1,k T (by simp) _ st.2.2⟩
 item:=λi s Q E hi st q=>by
  have ol:ord.length=es.size:=by rw[hp.length_eq,List.length_range]
  have e1:ord[i]?=some (ord[i]'(by omega)):=by simp[ol,hi]
  have lt:ord[i]'(by omega)<es.size:=List.mem_range.mp (hp.mem_iff.mp (List.getElem_mem (by omega)));have e2:es[ord[i]'(by omega)]?=some (es[ord[i]'(by omega)]):=by simp[lt]
  refine Tm st.1 st.2.2 st.2.1 hd hf e1 e2 λh' g sb=>?_;exact q _ h' s.toks ⟨_,_,e1,e2,rfl⟩ ⟨g,(sb.2 S hSI).trans st.2.1,(sb.2 T hTI).trans st.2.2⟩ λb o hb e=>(sb.2 b (by simpa using hb)).trans e
 done:=λs Q E st q=>by
  have ol:ord.length=es.size:=by rw[hp.length_eq,List.length_range]
  refine V9 hh st.1 st.2.2 st.2.1 hd hf (by simp[ol]) λh' k=>?_;exact q h' s.toks λb o hb e=>k b o (by simpa using hb) e
 self:=λi s Q E st h=>Tl st.1 h
end
end Xt
set_option maxHeartbeats 2000000
namespace Xt
open PySem PySem.Spec PyProof.Rows Sem L2 Ht
section
variable{prog:Program}{w:World}{A:Around}{E:Value->Shared->Prop}{s:Shared}
theorem Nz{ord:List Nat}{es:Array (Int×Value)}{acc:Array Value}(it:ItemsOf (λi v=>∃j e,ord[i]?=some j/\es[j]?=some e/\v=e.2) acc es.size)(hp:ord.Perm (List.range es.size)):acc.toList.Perm (es.toList.map (·.2)):=by
 have ol:ord.length=es.size:=by rw[hp.length_eq,List.length_range]
 have e1:acc.toList=ord.map λj=>(es.toList.map (·.2)).getD j .none:=by
  refine List.ext_getElem? λi=>?_;by_cases hi:i<acc.size
  ·obtain⟨j,e,h1,h2,h3⟩:=it.2 i acc[i] (by simp[hi]);have e0:acc.toList[i]?=some acc[i]:=by simp[hi]
   rw[e0,AAW,h1];simp[h2,h3]
  ·have h1:=it.1;rw[List.getElem?_eq_none (by simp;omega),List.getElem?_eq_none (by simp;omega)]
 have e2:(List.range es.size).map (λj=>(es.toList.map (·.2)).getD j .none)=es.toList.map (·.2):=by
  refine List.ext_getElem? λi=>?_;by_cases hi:i<es.size
  ·simp[hi]
  ·rw[List.getElem?_eq_none (by simp;omega),List.getElem?_eq_none (by simp;omega)]
 rw[e1];exact(hp.map _).trans (by rw[e2])
theorem UJ{S:Addr}{ep:Nat}{es:Array (Int×Value)}{t:SetTable}{o:Obj}{R:List Value->Shared->Prop}(hh:A.handled=none)(ho:s.heap.get? S=some o)(hex:o.ExactSet)(hd:o.data=.set es ep t)(hf:t.fits es.size=true)(nf:w.params.followText "set-order" = false)(np:t.plain=false)(n1:1<es.size)(n2:es.size<=1000)
  (q:∀h' tk d (acc:List Value),(∀b o,s.heap.get? b=some o->h'.get? b=some o)->acc.Perm (es.toList.map (·.2))->R acc { s with heap:=h',toks:=tk,drawn:=d }):wpAny (model prog w) A (collect (.ref S)) R E s:=by
 unfold collect;refine AAA (wpAny_runValue (codeAny_builtin entry_proto_collect' ?_));rw[Around.under_plainId PySem.F.plain_proto_collect _];unfold Builtin.«proto.collect»
 wp_walk
 refine⟨plainId_quiet PySem.F.plain_list_iadd _,codeAny_builtin entry_list_iadd' ?_⟩;rw[Around.under_plainId PySem.F.plain_list_iadd _];obtain⟨h1,e1⟩:∃h1,h1=s.heap.push { cls:=.type "list",data:=.seq #[] }:=⟨_,rfl⟩;have sz:h1.objs.size=s.heap.objs.size+1:=by rw[e1];exact Heap.size_push ..
 have hL:h1.get? s.heap.objs.size=some { cls:=.type "list",data:=.seq #[] }:=by rw[e1];exact AAD _ rfl
 have hS:h1.get? S=some o:=by rw[e1];exact AAC _ ho
 have old:∀b o,s.heap.get? b=some o->h1.get? b=some o:=λb o e=>by rw[e1];exact AAC _ e
 have ltS:=Heap.lt_size ho;rw[←e1];have tS:Shared.TypeIs { s with heap:=h1 } (.ref S) "set" := ⟨_,hS,hex.1⟩;have iter:∀(A:Around) (E:Value->Shared->Prop) (Q:Value->Shared->Prop),(∀ord d,ord.Perm (List.range es.size)->Q (.ref (h1.objs.size+1)) { s with drawn:=d,heap:=(h1.push (plO ord)).push (itD h1.objs.size S 0 es.size ep) })->wpAny (model prog w) A (pyIter (.ref S)) Q E { s with heap:=h1 }:=λA E Q z=>V8 (s:={ s with heap:=h1 }) hS hex hd hf nf np n1 n2 z;unfold Builtin.«list.__iadd__»
 wp_walk using iter
 have ne:Builtin.List.listSameRef (.ref s.heap.objs.size) (.ref S)=false:=by
  simp[Builtin.List.listSameRef];exact λz=>absurd ltS (by rw[←z];exact AA1 _)
 rw[ne,if_neg (by decide)];refine AAA (iter _ _ _ λord d p=>?_);have sz2:(h1.push (plO ord)).objs.size=h1.objs.size+1:=Heap.size_push ..;have up:∀b o,h1.get? b=some o->((h1.push (plO ord)).push (itD h1.objs.size S 0 es.size ep)).get? b=some o:=λb o e=>AAC _ (AAC _ e);have hI:((h1.push (plO ord)).push (itD h1.objs.size S 0 es.size ep)).get? (h1.objs.size+1)=some (itD h1.objs.size S 0 es.size ep):=by
  rw[←sz2];exact AAD _ rfl
 have hT:((h1.push (plO ord)).push (itD h1.objs.size S 0 es.size ep)).get? h1.objs.size=some (plO ord):=AAC _ (AAD _ rfl);generalize (h1.push (plO ord)).push (itD h1.objs.size S 0 es.size ep)=h2 at up hI hT;refine AAA (AAo (Lp (s:={ s with drawn:=d,heap:=h2 }) ⟨_,up _ _ hS,hex.1⟩ ?_));rw[if_pos (by decide +kernel)];refine AAA (wpAny_rule ?_);unfold Builtin.List.listTouch;have hL2:=up _ _ hL
 wp_walk
 have f1:=Heap.get?_update_self (Obj.mapSeq λx=>x.push Value.none) hL2 rfl;have f2:=Heap.get?_update_self (Obj.mapSeq λx=>x.pop) f1 rfl;have far:∀b o,b≠s.heap.objs.size->h2.get? b=some o->((h2.update s.heap.objs.size (Obj.mapSeq λx=>x.push Value.none)).update s.heap.objs.size (Obj.mapSeq λx=>x.pop)).get? b=some o:=λb o hb e=>(Heap.get?_update_other _ _ (Ne.symm hb)).trans ((Heap.get?_update_other _ _ (Ne.symm hb)).trans e);generalize (h2.update s.heap.objs.size (Obj.mapSeq λx=>x.push Value.none)).update s.heap.objs.size (Obj.mapSeq λx=>x.pop)=h3 at f2 far;have n1:S≠h1.objs.size+1:=AAe (by rw[sz];exact AAh (AAh ltS));have n2':h1.objs.size≠h1.objs.size+1:=AAe (Nat.lt_succ_self _);have n3:S≠s.heap.objs.size:=AAe ltS;have n4:h1.objs.size≠s.heap.objs.size:=Nat.ne_of_gt (by rw[sz];exact Nat.lt_succ_self _);have n5:h1.objs.size+1≠s.heap.objs.size:=Nat.ne_of_gt (by rw[sz];exact AAh (Nat.lt_succ_self _));have W:=XX (prog:=prog) (w:=w) (A:=A.in1) (I:=h1.objs.size+1) (T:=h1.objs.size) (S:=S) (ep:=ep) (by simp[hh]) n1 n2' hd hf p;refine⟨plainId_quiet PySem.F.plain_extend_loop _,codeAny_extend_loopS W.toS (by rw[sizeLine_eq];omega) s.heap.objs.size (by simp[n3.symm,n4.symm,n5.symm]) _ es.size 0 _ #[] _ rfl (AAk _) ⟨far _ _ n5 hI,far _ _ n3 (up _ _ hS),far _ _ n4 hT⟩ f2 (ItemsOf.nil _) λs' acc' c' hm hS' hacc=>?_⟩;dsimp only;refine AAA (wpAny_load hS' (AAB ?_));rw[Moved.eq_with hm];refine q s'.heap s'.toks d acc'.toList (λb o e=>hm.heap b o (λz=>?_) (far _ _ (AAe (Heap.lt_size e)) (up _ _ (old b o e)))) (Nz hacc p);have lt:=Heap.lt_size e;rcases AAJ.mp z with z|z
 ·rw[z] at lt;exact AA1 _ lt
 ·rw[AAL.mp z,sz] at lt;exact absurd lt (Nat.not_lt.mpr (Nat.le_succ_of_le (Nat.le_succ _)))
end
end Xt
set_option maxHeartbeats 2000000
namespace Xt
open PySem PySem.Spec PyProof.Rows Sem L2 Ht
theorem VE{xs:Array Nat}(h:xs.size<=1):Ris xs.toList:=by
 obtain⟨l⟩:=xs
 match l,h with
 |[],_=>exact List.Pairwise.nil
 |[x],_=>exact List.pairwise_singleton _ _
 |_::_::_,h=>simp at h
section
variable{prog:Program}{w:World}{A:Around}{E:Value->Shared->Prop}{s:Shared}
theorem UI(hh:A.handled=none)(hS:SetT prog w s.heap S ks)(hk:ks.length<=1000)
  (q:∀h' tk d (acc:List Value) ms,(∀b o,s.heap.get? b=some o->h'.get? b=some o)->StrsAre acc ms->ms.Perm ks->R acc { s with heap:=h',toks:=tk,drawn:=d }):wpAny (model prog w) A (collect (.ref S)) R E s:=by
 obtain⟨o,es,ep,t,ho,hex,hd,hel,⟨ns,hen,hp⟩,hfit,hled,hpl⟩:=hS;have hsz:=Jf hen hp;have fin:∀h' tk d (acc:List Value),(∀b o,s.heap.get? b=some o->h'.get? b=some o)->acc.Perm (es.toList.map (·.2))->R acc { s with heap:=h',toks:=tk,drawn:=d }:=λh' tk d acc k p=>by
  obtain⟨ms,m1,m2⟩:=GZ p hen;exact q h' tk d acc ms k m1 (m2.trans hp)
 by_cases dr:w.params.followText "set-order" = false/\1<es.size
 ·exact UJ hh ho hex hd hfit dr.1 (hpl (by omega)) dr.2 (by omega) fin
 ·have pz:t.place.size=es.size:=by
   have z:=hfit;unfold SetTable.fits at z;simp only[Bool.and_eq_true,beq_iff_eq] at z;exact z.1
  have T:Wt w t es.size:=by
   refine⟨hfit,λnf=>?_⟩;have le:es.size<=1:=Nat.not_lt.mp λz=>dr ⟨nf,z⟩;exact⟨VE (by omega),by rw[AAO (by omega)];simp⟩
  refine PySem.W.kdu_collect (A:=A) (Om (S:=S) hex hd T hled) hh ho (by rw[sizeLine_eq];omega) λh1 t1 acc k1 it=>?_;have hacc:acc.toList=(wv w S ep es).toList.map (·.2):=by
   refine List.ext_getElem? λi=>?_;by_cases hi:i<acc.size
   ·obtain⟨e,h1,h2⟩:=it.2 i acc[i] (by simp[hi]);have:acc.toList[i]?=some acc[i]:=by simp[hi]
    rw[this,h2,AAW,Array.getElem?_toList,h1];rfl
   ·have h1:=it.1;have h2:=Fq w S ep es;rw[List.getElem?_eq_none (by simp;omega),List.getElem?_eq_none (by simp;omega)]
  exact fin h1 t1 s.drawn acc.toList k1 (by rw[hacc];exact(Kc w S ep es).map _)
theorem Lk(hh:A.handled=none)(h64:ks.length<64)(hS:SetT prog w s.heap S ks)
  (q:∀(h1 h':Heap) tk d c (out:Array Value) ms,(∀b o,s.heap.get? b=some o->h1.get? b=some o)->(∀b o,h1.get? b=some o->h'.get? b=some o)->h'.get? h1.objs.size=some (seqObj "list" out c)->StrsAre out.toList ms->ms.Perm ks->sortedS ms=true->Q (.ref h1.objs.size) { s with heap:=h',toks:=tk,drawn:=d }) :
  wpAny (model prog w) A (call (.builtin "sorted") [.ref S]) Q E s:=by
 refine Calls.call_function_entry kind_sorted plain_sorted entry_sorted (args_sorted1 _) ?_;unfold Builtin.«sorted»;refine AAA (AAw (a:=()) rfl ?_);refine AAA (UI (A:=A.in1) hh hS (by omega) λh1 t1 d acc ms k1 im pm=>?_);have hlen:acc.length<64:=by rw[im.length,pm.length_eq];exact h64
 refine AAA (wpAny_newList ?_ (by rw[sizeLine_eq];omega));have hL:(h1.push (seqObj "list" acc.toArray 0)).get? h1.objs.size=some (seqObj "list" acc.toArray 0):=AAD _ rfl;have kL:∀b o,h1.get? b=some o->(h1.push (seqObj "list" acc.toArray 0)).get? b=some o:=λb o e=>AAC _ e;refine AAA (AAo (AAd slot_list_sort ⟨_,hL,rfl⟩ entry_list_sort (list_sort_treeK strKind_oneLt hL im.keysOf (λv₁ v₂ BG e=>keyKind_strs (by rw[←e];exact im)) hlen λst' hp hs=>⟨_,rfl,?_⟩) (args_list_sort _)));obtain⟨ss',a1,a2,a3⟩:=sorted_out_str im hp hs;obtain⟨c,hc⟩:=sortedHeap_at (out:=(arrOf st').map (·.2)) hL;exact AAB ⟨_,rfl,q h1 _ _ d c _ ss' k1 (λb o e=>by rw[sortedHeap_old (AAe (Heap.lt_size e)) (Heap.lt_size (kL b o e))];exact kL b o e) hc a1 (a2.trans pm) a3⟩
end
noncomputable abbrev sl(x:Str):List Nat:=x.cps.toList
theorem Xl(h:sl x=sl y):x=y:=by
 obtain⟨⟨a⟩⟩:=x;obtain⟨⟨b⟩⟩:=y;have h:a=b:=h;rw[h]
theorem SG(h:¬sl x<sl y)(n:x≠y):sl y<sl x:=by
 refine Classical.byContradiction λz=>n (Xl (List.le_antisymm ?_ ?_))
 ·exact List.not_lt.mp z
 ·exact List.not_lt.mp h
noncomputable def MY(x:Str):List Str->List Str
 |[]=>[x]
 |y::ys=>if sl x<sl y then x::y::ys else if x=y then y::ys else y::MY x ys
noncomputable def JM(xs:List Str):List Str:=xs.foldr MY []
theorem Ib(x k:Str):∀ys:List Str,k∈MY x ys↔k=x∨k∈ys
 |[]=>by simp[MY]
 |y::ys=>by
  unfold MY;split
  ·simp
  ·split
   ·rename_i e;subst e;simp
   ·rw[AAJ,Ib x k ys,AAJ];constructor<;>(intro z;rcases z with z|z|z<;>simp[z])
theorem Pa(x:Str):∀{ys:List Str},ys.Pairwise (λa b=>sl a<sl b)->(MY x ys).Pairwise λa b=>sl a<sl b
 |[],_=>by simp[MY]
 |y::ys,h=>by
  obtain⟨h1,h2⟩:=AA2.mp h;unfold MY;split
  ·rename_i hx;exact AA2.mpr ⟨λz hz=>(AAJ.mp hz).elim (λe=>e ▸ hx) λm=>List.lt_trans hx (h1 z m),h⟩
  ·rename_i hx;split
   ·exact h
   ·rename_i ne;refine AA2.mpr ⟨λz hz=>?_,Pa x h2⟩;rcases(Ib x z ys).mp hz with rfl|m
    ·exact SG hx ne
    ·exact h1 z m
theorem SE(xs:List Str)(k:Str):k∈JM xs↔k∈xs:=by
 unfold JM
 induction xs with
 |nil=>simp
 |cons x xs ih=>rw[List.foldr_cons,Ib,ih,AAJ]
theorem Oj(xs:List Str):(JM xs).Pairwise λa b=>sl a<sl b:=by
 unfold JM
 induction xs with
 |nil=>exact .nil
 |cons x xs ih=>exact Pa x ih
theorem Wi{α:Type}{r:α->α->Prop}(asym:∀x y,r x y->r y x->False):∀{xs ys:List α},xs.Pairwise r->ys.Pairwise r->xs.Perm ys->xs=ys
 |[],ys,_,_,p=>p.nil_eq
 |x::xs,[],_,_,p=>by cases p.length_eq
 |x::xs,y::ys,a,b,p=>by
  obtain⟨a1,a2⟩:=AA2.mp a;obtain⟨b1,b2⟩:=AA2.mp b;have e:x=y:=by
   rcases AAJ.mp (p.mem_iff.mp AAQ) with z|z
   ·exact z
   ·rcases AAJ.mp (p.mem_iff.mpr AAQ) with z2|z2
    ·exact z2.symm
    ·exact(asym x y (a1 y z2) (b1 x z)).elim
  subst e;rw[Wi asym a2 b2 p.cons_inv]
theorem WZ:∀(p:Str) (l:List Str),risingS p l=true->(p::l).Pairwise λa b=>¬sl b<sl a
 |p,[],_=>List.pairwise_singleton _ _
 |p,x::r,h=>by
  have h':(!ltCps x.cps.toList p.cps.toList&&risingS x r)=true:=h;rw[Bool.and_eq_true,ltCps_eq] at h';have h1:¬sl x<sl p:=by simpa using h'.1
  have ih:=WZ x r h'.2;refine AA2.mpr ⟨λz hz=>?_,ih⟩;rcases AAJ.mp hz with rfl|hz
  ·exact h1
  ·have h2:=(AA2.mp ih).1 z hz;exact List.not_lt.mpr (List.le_trans (List.not_lt.mp h1) (List.not_lt.mp h2))
theorem U0{ms ns:List Str}(nd:ms.Nodup)(hm:∀k,k∈ms↔k∈ns)(h:sortedS ms=true):ms=JM ns:=by
 have up:ms.Pairwise λa b=>¬sl b<sl a:=by
  cases ms with
  |nil=>exact .nil
  |cons p l=>exact WZ p l h
 have lt:ms.Pairwise λa b=>sl a<sl b:=(List.pairwise_and_iff.mpr ⟨up,nd⟩).imp λz=>SG z.1 (Ne.symm z.2);have nd2:(JM ns).Nodup:=(Oj ns).imp λz e=>by
  rw[e] at z;exact List.lt_irrefl _ z
 refine Wi (λx y a b=>List.lt_irrefl _ (List.lt_trans a b)) lt (Oj ns) ((List.perm_ext_iff_of_nodup nd nd2).mpr λk=>?_);rw[hm,SE]
theorem Nj(xs:List Str):(C5 xs).Nodup/\∀k,k∈C5 xs↔k∈xs:=by
 suffices h:∀(xs ys:List Str),ys.Nodup->(xs.foldl (λys x=>if x∈ys then ys else ys++[x]) ys).Nodup/\∀k,k∈xs.foldl (λys x=>if x∈ys then ys else ys++[x]) ys↔k∈ys∨k∈xs by
  have:=h xs [] List.nodup_nil;exact⟨this.1,λk=>(this.2 k).trans (by simp)⟩
 intro xs
 induction xs with
 |nil=>intro ys nd;exact⟨nd,λk=>by simp⟩
 |cons x xs ih=>
  intro ys nd;rw[List.foldl_cons];by_cases z:x∈ys
  ·rw[if_pos z];obtain⟨a,b⟩:=ih ys nd;refine⟨a,λk=>(b k).trans ?_⟩;rw[AAJ];exact⟨λq=>q.elim .inl λq=>.inr (.inr q),λq=>q.elim .inl λq=>q.elim (λe=>.inl (e ▸ z)) .inr⟩
  ·rw[if_neg z];obtain⟨a,b⟩:=ih (ys++[x]) (List.nodup_append.mpr ⟨nd,by simp,λu hu v hv=>by rw[AAL.mp hv];exact λe=>z (e ▸ hu)⟩);refine⟨a,λk=>(b k).trans ?_⟩;rw[AAK,AAL,AAJ,or_assoc]
end Xt
namespace L2
open PySem PySem.Spec PyProof.Rows Sem Ht Xt
noncomputable def U6(P:Program)(w:World)(p:Addr)(ks:List Str):HO:=.ext λh=>SetT P w h p ks
theorem Oi:∀{ss:List Str} {us:List Value},Vals (ss.map V.str) us->StrsAre us ss
 |[],us,h=>by cases h;exact .nil
 |s::ss,us,h=>by
  rw[AAX] at h;cases h with
  |cons r h=>
   obtain⟨t,rfl⟩:=r;exact .cons s t (Oi h)
theorem Jc:∀{us:List Value} {ss:List Str},StrsAre us ss->Vals (ss.map V.str) us
 |_,_,.nil=>.nil
 |_,_,.cons y t h=>.cons ⟨t,rfl⟩ (Jc h)
section
variable{X:Cx}
theorem Inv.draw(I:Inv X pins σ H s)(d:Drawn):Inv X pins σ H { s with drawn:=d }:=⟨I.ok,I.os,I.bare,I.base,I.loc,I.cell,I.free,I.freeC,I.pin,I.hok,I.len⟩
theorem call_setX(hc:X.calm=true):Bh X (.type "set") (λxs H Q=>∃a ss,xs=[.ref a]/\SqL X.kw H a (ss.map V.str)/\ss.length+1<scanBound/\∀p,H p=none->Q (.ref p) (upd H p (U6 X.prog X.w p (C5 ss)))):=by
 intro pins s σ H xs us Q I r h;obtain⟨a,ss,rfl,ha,room,q⟩:=h;obtain⟨u,rfl,ru⟩:=Vals.one r;cases ru;obtain⟨its,rv,pl,hz⟩:=I.list ha;refine Xt.call_setX (I.ok.hd hc) pl.isList (Oi rv) room λh' tk kp hS=>?_;refine⟨.ref s.heap.objs.size,_,I.laid (o:=U6 X.prog X.w s.heap.objs.size (C5 ss)) kp (AAF _) ?_,rfl,q _ (I.hok.fresh (AAF _))⟩;obtain⟨o,es,ep,t,e,BG⟩:=id hS;exact⟨hS,⟨o,e⟩,λh1 h2 z k=>z.at k⟩
theorem OA(hc:X.calm=true):Bh X (.builtin "sorted") (λxs H Q=>∃p ss,xs=[.ref p]/\H p=some (U6 X.prog X.w p (C5 ss))/\(C5 ss).length<64/\∀l,H l=none->Q (.ref l) (upd H l (.lst ((JM ss).map V.str)))):=by
 intro pins s σ H xs us Q I r h;obtain⟨p,ss,rfl,hp,h64,q⟩:=h;obtain⟨u,rfl,ru⟩:=Vals.one r;cases ru;obtain⟨hS,_⟩:=I.hok p _ hp;refine Lk (I.ok.hd hc) h64 hS λh1 h' tk d c out ms k1 k2 e1 im pm sm=>?_;obtain⟨nd,mem⟩:=Nj ss;have em:=U0 (pm.nodup_iff.mpr nd) (λk=>pm.mem_iff.trans (mem k)) sm;subst em;have I1:=I.kept (t':=tk) k1;have rv:=Jc im;have I2:=I1.laid (t':=tk) (o:=.lst ((JM ss).map V.str)) k2 (AAF _) ⟨by rw[AAG,pm.length_eq,sizeLine_eq];omega,out.toList,c,rv,e1⟩;exact⟨.ref h1.objs.size,_,I2.draw d,rfl,q _ (I1.hok.fresh (AAF _))⟩
end
end L2
namespace Mi
open PySem L2 Ht Xt
noncomputable def Jh(d:D):M D:=bnd (DC d) λds=>λμ=>match Jg ds with
 |some ss=>if ss.length<=1000/\(C5 ss).length<64 then some (.lst ((JM ss).map D.str),μ) else none
 |none=>none
theorem MV:∀ss:List Str,IsL K ι k H (ss.map D.str) (ss.map V.str)
 |[]=>IsL.nil
 |n::r=>by
  rw[AAX,AAX];unfold IsL;exact⟨_,_,rfl,ofS _,MV r⟩
section
variable{X:Cx}{e:Expr}{pos p p2 pos2:Pos}
theorem L5(yl:X.mg "sorted" = none)(ys:X.mg "set" = none)(he:RE X e m)(hc:X.calm=true:=by rfl)(hgl:Gl X "sorted" := by rfl)(hgs:Gl X "set" := by rfl)(hst:En e=false:=by rfl):
  RE X (.Call (.Name "sorted" p) [.Call (.Name "set" p2) [e] [] pos2] [] pos) (mUn Jh m):=by
 have hs:PE X (.Call (.Name "set" p2) [e] [] pos2) _:=DX (call_setX hc) hgs ys Mi.M5 (Du he.pe Fe (As hst)) (by decide) (by decide) (As hst) rfl;refine RE.wk (IJ (OA hc) hgl yl PyProof.Rows.boot_sorted (Du hs Fe (As rfl)) (by decide) (by decide) (As rfl) rfl) λσ H Q h=>?_;obtain⟨ι,μ,τ,d,μ',R,S,ev,q⟩:=h;obtain⟨x,μ1,e1,e2⟩:=AL ev;obtain⟨ds,μ2,e3,e4⟩:=AL e2;refine⟨ι,μ,τ,x,μ1,R,S,e1,λι1 H1 E1 R1 v1 i1=>?_⟩;obtain⟨hm,a,vs,rfl,h1,h2⟩:=Bw R1 i1 e3;subst hm;cases hx:Jg ds with
 |none=>rw[hx] at e4;cases e4
 |some ss=>
  rw[hx] at e4;have e5:(if ss.length<=1000/\(C5 ss).length<64 then some (D.lst ((JM ss).map D.str),μ2) else none)=some (d,μ'):=e4;split at e5
  ·rename_i room;cases e5;have ev:=Lh h2 hx;subst ev;refine⟨a,ss,rfl,h1,by unfold scanBound;omega,λp hp=>?_⟩;obtain⟨E2,R2⟩:=R1.laid (U6 X.prog X.w p (C5 ss)) hp;exact⟨p,ss,rfl,BJ,room.2,λl hl=>PQ R2 (MV _) (λι' H' E' R'=>q ι' H' ((E1.trans E2).trans E') R') l hl⟩
  ·cases e5
end
end Mi
namespace Mi
open PySem L2
end Mi
namespace L2
open PySem PySem.Spec PyProof.Rows Sem
noncomputable abbrev GX(TI TO T:Addr)(b:Bool):Obj:={ cls:=.type "zip",data:=.fields #[rawInt T,.bool b,.bool false,.ref TI,.ref TO] }
section
variable{prog:Program}{w:World}{A:Around}{E:Value->Shared->Prop}{s:Shared}
theorem Ub(ho:s.heap.get? a=some o)(h:Q (some o) s):wpAny (model prog w) A (PySem.loadIfAlive a) Q E s:=λΓ p _=>by
 unfold PySem.loadIfAlive;rw[wp_loadIfAlive,ho];exact h
theorem MB{z TI TO T:Addr}{b:Bool}(hz:s.heap.get? z=some (GX TI TO T b))(hT:s.heap.get? T=some oT)
  (q:∀h',h'.get? z=some (GX TI TO T true)->Heap.SameBut z s.heap h'->Q false { s with heap:=h' }):wpAny (model prog w) A (Builtin.SmallTypes.ownedTupleIsFree (.ref z)) Q E s:=by
 unfold Builtin.SmallTypes.ownedTupleIsFree;refine AAA (m:=field (.ref z) 0) (AAx hz rfl (x:=rawInt T) rfl ?_);refine AAA (Ub (o:=oT) (by show s.heap.get? ((T:Int)).toNat=some oT;rw[Int.toNat_natCast];exact hT) ?_);refine BF (by simp) ?_;refine AAA (m:=field (.ref z) 1) (AAx hz rfl (x:=.bool b) rfl ?_);cases b with
 |false=>
  rw[if_pos (by decide)];refine AAA (AAp hz (by simp) λh1 z1 b1=>AAB ?_);exact q h1 z1 b1
 |true=>
  rw[if_neg (by decide)];refine AAB ?_;exact q s.heap hz ⟨rfl,λ_ _=>rfl⟩
theorem Pu{z TI TO T i1 i2:Addr}{n k:Nat}{b:Bool}{oT:Obj}{f1 f2:List Addr}{Q:Value->Shared->Prop}(ap:DS z TI TO i1 i2 f1 f2)
  (D1:Draws prog w A.in1 i1 f1 n P1 S1) (D2:Draws prog w A.in1 i2 f2 n P2 S2) (hk:k<n)
  (hz:s.heap.get? z=some (GX TI TO T b)) (hT:s.heap.get? T=some oT) (hI:TwoAt s.heap TI (.ref i1) (.ref i2)) (s1:S1 k s.heap) (s2:S2 k s.heap)
  (q:∀x y U h' tk,P1 k x->P2 k y->s.heap.objs.size<=U->h'.IsTuple U #[x,y]->h'.get? z=some (GX TI TO T true)->S1 (k+1) h'->S2 (k+1) h'->(∀c o,c≠z->c≠i1->c≠i2->s.heap.get? c=some o->h'.get? c=some o)->Q (.ref U) { s with heap:=h',toks:=tk }) :
  wpAny (model prog w) A.in1 (Builtin.«zip.__next__» ⟨[.ref z],[]⟩) (λfin s'=>∃v,fin=.done (.ret v)/\Q v s') E s:=by
 obtain⟨nI,eI⟩:=id hI;refine AAA (m:=field (.ref z) 2) (AAx hz rfl (x:=.bool false) rfl ?_);refine AAA (m:=field (.ref z) 3) (AAx hz rfl (x:=.ref TI) rfl ?_);refine AAA (m:=seqItems? (.ref TI)) (AAy eI rfl ?_);refine BF (by simp) ?_;refine AAA (MB hz hT λh1 z1 b1=>?_);rw[if_neg (by decide)];have k1:∀c o,c≠z->s.heap.get? c=some o->h1.get? c=some o:=λc o hc e=>(b1.2 c hc).trans e;have s11:=D1.frame _ _ h1 s1 λc hc o e=>k1 c o (λy=>ap.z1 (y ▸ hc)) e;have s21:=D2.frame _ _ h1 s2 λc hc o e=>k1 c o (λy=>ap.z2 (y ▸ hc)) e;have ne1:∀{c:Addr},c∉f1->c≠i1:=λhc y=>hc (y ▸ ap.m1);have ne2:∀{c:Addr},c∉f2->c≠i2:=λhc y=>hc (y ▸ ap.m2);refine AAA (m:=forIn (#[Value.ref i1,Value.ref i2]:Array Value) _ _) ?_;rw[←Array.forIn_toList];show wpAny _ _ (forIn [Value.ref i1,Value.ref i2] _ _) _ _ _;rw[List.forIn_cons];refine AAA (AAA (AAo (AAA (D1.item k { s with heap:=h1 } _ _ hk s11 λx h2 t2 px s12 b2=>AAB (AAB ?_)))));have k2:∀c o,c≠i1->h1.get? c=some o->h2.get? c=some o:=λc o hc e=>(b2.2 c hc).trans e;have z2:=k2 z _ (ne1 ap.z1) z1;have s22:=D2.frame _ _ h2 s21 λc hc o e=>k2 c o (λy=>ap.x12 (y ▸ hc)) e;show wpAny _ _ (forIn [Value.ref i2] _ _) _ _ _;rw[List.forIn_cons];refine AAA (AAA (AAo (AAA (D2.item k { s with heap:=h2,toks:=t2 } _ _ hk s22 λy h4 t4 py s24 b4=>AAB (AAB ?_)))));have k4:∀c o,c≠i2->h2.get? c=some o->h4.get? c=some o:=λc o hc e=>(b4.2 c hc).trans e;have z4:=k4 z _ (ne2 ap.z2) z2;have s14:=D1.frame _ _ h4 s12 λc hc o e=>k4 c o (λy=>ap.x21 (y ▸ hc)) e;show wpAny _ _ (forIn [] _ _) _ _ _;rw[List.forIn_nil];refine AAB ?_;refine AAA (wpAny_newTuple (AAB ⟨_,rfl,?_⟩) (by simp[sizeLine]));have kp:∀c o,h4.get? c=some o->(h4.push { cls:=.type "tuple",data:=.seq #[x,y] }).get? c=some o:=λc o e=>AAC _ e;have sz:h4.objs.size=s.heap.objs.size:=by rw[b4.1,b2.1,b1.1]
 exact q x y h4.objs.size _ t4 px py (by rw[sz];exact AAF _) ⟨_,AAD _ rfl,rfl,0,rfl⟩ (kp z _ z4) (D1.frame _ _ _ s14 λc _ o e=>kp c o e) (D2.frame _ _ _ s24 λc _ o e=>kp c o e) λc o c1 c2 c3 e=>kp c o (k4 c o c3 (k2 c o c2 (k1 c o c1 e)))
theorem RU{z TI TO T i1 i2:Addr}{n:Nat}{b:Bool}{oT:Obj}(ap:DS z TI TO i1 i2 f1 f2)(D1:Draws prog w A.in1 i1 f1 n P1 S1)
  (hz:s.heap.get? z=some (GX TI TO T b)) (hT:s.heap.get? T=some oT) (hI:TwoAt s.heap TI (.ref i1) (.ref i2)) (s1:S1 n s.heap)
  (q:∀h' e,(∀c o,c≠z->c≠i1->s.heap.get? c=some o->h'.get? c=some o)->(∃o,h'.get? e=some o/\o.cls=.type "StopIteration")->E (.ref e) { s with heap:=h' }) :
  wpAny (model prog w) A.in1 (Builtin.«zip.__next__» ⟨[.ref z],[]⟩) Q E s:=by
 obtain⟨nI,eI⟩:=id hI;refine AAA (m:=field (.ref z) 2) (AAx hz rfl (x:=.bool false) rfl (AAA (m:=field (.ref z) 3) (AAx hz rfl (x:=.ref TI) rfl (AAA (m:=seqItems? (.ref TI)) (AAy eI rfl ?_)))));refine BF (by simp) (AAA (MB hz hT λh1 z1 b1=>?_));rw[if_neg (by decide)];have s11:=D1.frame _ _ h1 s1 λc hc o e=>(b1.2 c (λy=>ap.z1 (y ▸ hc))).trans e;refine AAA (m:=forIn (#[Value.ref i1,Value.ref i2]:Array Value) _ _) ?_;rw[←Array.forIn_toList];show wpAny _ _ (forIn [Value.ref i1,Value.ref i2] _ _) _ _ _;rw[List.forIn_cons];refine AAA (AAA (AAo (AAA (D1.done { s with heap:=h1 } _ _ s11 λh2 e eb so=>?_))));exact q h2 e (λc o c1 c2 x=>eb c o c2 ((b1.2 c c1).trans x)) so
end
section
variable{prog:Program}{w:World}{A:Around}{E:Value->Shared->Prop}{s:Shared}
theorem NE:typeLookup (.type "zip") "keys" = pure none:=by rw[typeLookup_type,builtinLookup_eq_fast];kernel_rfl
theorem NF:typeLookup (.type "zip") "__getattr__" = pure none:=by rw[typeLookup_type,builtinLookup_eq_fast];kernel_rfl
theorem Pv:entryFor table "zip.__getattribute__" = some Builtin.«object.__getattribute__»:=entryFor_alias (id' := "object.__getattribute__") (by kernel_rfl) (by decide +kernel) (by decide +kernel) (by kernel_rfl)
theorem RN(z:Addr)(fs:Array Value)(u:Tok):Meets (Builtin.«object.__getattribute__» ⟨[.ref z,.str "keys" u],[]⟩) (λA R s=>s.heap.get? z=some { cls:=.type "zip",data:=.fields fs }/\raisesAttr (.ref z) "keys" A R s):=
 .of_wp λprog w A R s ⟨hz,q⟩=>by
  have ty:s.TypeIs (.ref z) "zip" := ⟨_,hz,rfl⟩;obtain⟨hp,gs,dr,tk,os⟩:=s;have no:=NE;unfold Builtin.«object.__getattribute__»
  wp_walk
  refine AAw no ?_
  wp_walk
  exact wpAny_raiseAttrError q.1 q.2 (by decide +kernel)
theorem RP(there:s.heap.get? z=some { cls:=.type "zip",data:=.fields fs })(calm:A.handled=none)
  (q:∀h' n,(∀b o,s.heap.get? b=some o->h'.get? b=some o)->Q none { s with heap:=h',toks:=n }):wpAny (model prog w) A (getAttr? (.ref z) "keys") Q E s:=by
 unfold getAttr? getAttrBy?;refine AAA (wpAny_mkText (AAA (AAz ?_)));unfold getAttrBy;refine AAo (AAA (wpAny_typeOf (T := "zip") ⟨_,there,rfl⟩ ?_));refine AAA (AAw F.slot_zip_getattribute.lookup ?_);show wpAny _ _ (getAttrByItsOwn _ _ (.type "zip") _ false false) _ _ _;unfold getAttrByItsOwn;refine AAA (m:=hookBefore (.type "zip")) (AAB (AAA (AAz (AAo ?_))));show wpAny _ _ (boundAndCalled _ _ _) _ _ _;unfold boundAndCalled;refine AAA (AAw (F.slot_zip_getattribute.bind (.ref z)) ?_);refine call_meets F.slot_zip_getattribute ⟨_,there,rfl⟩ Pv (F.args_zip_getattribute_2 _ _) (RN z fs _) ⟨there,calm,λh' n e new=>?_⟩;obtain⟨_,_,oe⟩:=new.there;unfold getattributeRaised;refine AAA (AA0 (T := "AttributeError") (b:=true) ⟨_,oe,rfl⟩ sub_AttributeError ?_);refine AAA (m:=hookBehind (.type "zip") none) (AAw NF (wpAny_throw ?_));exact AAA (AA0 (T := "AttributeError") (b:=true) ⟨_,oe,rfl⟩ sub_AttributeError (AAB (q h' n new.of.keeps)))
def ZOn(h:Heap)(z TI TO i1 i2:Addr):Prop:=TwoAt h TI (.ref i1) (.ref i2)/\((h.get? z=some (B6 TI TO .none)/\∃a b,TwoAt h TO a b)∨∃T b oT,h.get? z=some (GX TI TO T b)/\h.get? T=some oT/\T≠TO/\T≠i1/\T≠i2/\T≠z)
theorem RQ{z TI TO i1 i2:Addr}{n k:Nat}{P1 P2:Nat->Value->Prop}(ap:DS z TI TO i1 i2 f1 f2)
  (D1:Draws prog w A.in1 i1 f1 n P1 S1) (D2:Draws prog w A.in1 i2 f2 n P2 S2) (hk:k<n) (hz:ZOn s.heap z TI TO i1 i2) (s1:S1 k s.heap) (s2:S2 k s.heap)
  (q:∀x y U h' tk,P1 k x->P2 k y->s.heap.objs.size<=U->h'.IsTuple U #[x,y]->ZOn h' z TI TO i1 i2->S1 (k+1) h'->S2 (k+1) h'->(∀c o,c≠z->c≠TO->c≠i1->c≠i2->s.heap.get? c=some o->h'.get? c=some o)->Q (some (.ref U)) { s with heap:=h',toks:=tk }) :
  wpAny (model prog w) A (pyNext (.ref z)) Q E s:=by
 obtain⟨hI,⟨h0,a,b,hO⟩|⟨T,b,oT,h0,hT,t1,t2,t3,t4⟩⟩:=hz
 ·have ty:s.TypeIs (.ref z) "zip" := ⟨_,h0,rfl⟩;obtain⟨o1,e1⟩:=D1.live _ _ s1;obtain⟨o2,e2⟩:=D2.live _ _ s2;obtain⟨n3,e3⟩:=id hO;unfold pyNext;refine AAA (AAz (wpAny_callSpecial?_slot (name:=Str.ofString "__next__") ty F.slot_zip_next (AAd F.slot_zip_next ty F.entry_zip_next (LV ap D1 D2 hk h0 hI hO s1 s2 λx y U h' tk px py hU tup b1 b2 b3 b4 b5 kp=>?_) (F.args_zip_next_1 _))));have lt:∀{c:Addr} {o:Obj},s.heap.get? c=some o->U≠c:=λe=>Nat.ne_of_gt (AAN (Heap.lt_size e) hU);obtain⟨oU,eU,_⟩:=id tup;exact AAB (q x y U h' tk px py hU tup ⟨b2,.inr ⟨U,false,oU,b1,eU,lt e3,lt e1,lt e2,lt h0⟩⟩ b4 b5 kp)
 ·have ty:s.TypeIs (.ref z) "zip" := ⟨_,h0,rfl⟩;unfold pyNext;refine AAA (AAz (wpAny_callSpecial?_slot (name:=Str.ofString "__next__") ty F.slot_zip_next (AAd F.slot_zip_next ty F.entry_zip_next (Pu ap D1 D2 hk h0 hT hI s1 s2 λx y U h' tk px py hU tup b1 b4 b5 kp=>?_) (F.args_zip_next_1 _))));exact AAB (q x y U h' tk px py hU tup ⟨hI.keep λo e=>kp TI o ap.zTI.symm ap.n1 ap.n2 e,.inr ⟨T,true,oT,b1,kp T oT t4 t2 t3 hT,t1,t2,t3,t4⟩⟩ b4 b5 λc o c1 _ c3 c4 e=>kp c o c1 c3 c4 e)
theorem RM{z TI TO i1 i2:Addr}{n:Nat}{P1:Nat->Value->Prop}(ap:DS z TI TO i1 i2 f1 f2)
  (D1:Draws prog w A.in1 i1 f1 n P1 S1) (hz:ZOn s.heap z TI TO i1 i2) (s1:S1 n s.heap) (q:∀h',(∀c o,c≠z->c≠i1->s.heap.get? c=some o->h'.get? c=some o)->Q none { s with heap:=h' }) :
  wpAny (model prog w) A (pyNext (.ref z)) Q E s:=by
 obtain⟨hI,⟨h0,a,b,hO⟩|⟨T,b,oT,h0,hT,_⟩⟩:=hz
 ·have ty:s.TypeIs (.ref z) "zip" := ⟨_,h0,rfl⟩;unfold pyNext;refine AAA (AAz (wpAny_callSpecial?_slot (name:=Str.ofString "__next__") ty F.slot_zip_next (AAd F.slot_zip_next ty F.entry_zip_next (LU ap D1 h0 hI hO s1 λh' e kp so=>?_) (F.args_zip_next_1 _))));obtain⟨o,ho,hc⟩:=so;exact AAA (AA0 (T := "StopIteration") (b:=true) ⟨o,ho,hc⟩ isSubtype_stop (AAB (q h' kp)))
 ·have ty:s.TypeIs (.ref z) "zip" := ⟨_,h0,rfl⟩;unfold pyNext;refine AAA (AAz (wpAny_callSpecial?_slot (name:=Str.ofString "__next__") ty F.slot_zip_next (AAd F.slot_zip_next ty F.entry_zip_next (RU ap D1 h0 hT hI s1 λh' e kp so=>?_) (F.args_zip_next_1 _))));obtain⟨o,ho,hc⟩:=so;exact AAA (AA0 (T := "StopIteration") (b:=true) ⟨o,ho,hc⟩ isSubtype_stop (AAB (q h' kp)))
end
section
variable{prog:Program}{w:World}{A:Around}{R:Result->Shared->Prop}
theorem Mp(hA:A.handled=none){d z TI TO i1 i2:Addr}{n:Nat}(ap:DS z TI TO i1 i2 f1 f2)(D1:∀A:Around,A.handled=none->Draws prog w A i1 f1 n P1 S1)(D2:∀A:Around,A.handled=none->Draws prog w A i2 f2 n P2 S2)
  (dz:d≠z) (dI:d≠TI) (dO:d≠TO) (d1:d∉f1) (d2:d∉f2) :
  ∀(more:List (Key×Value)) (k:Nat) (j:Int) (s:Shared) (kvs:List (Key×Value)),k+more.length=n->kvs.length+more.length<=sizeLine->ZOn s.heap z TI TO i1 i2->S1 k s.heap->S2 k s.heap->s.heap.DictOf (BL prog w) d kvs->
   (∀(m:Nat) (key:Key) (v:Value),more[m]?=some (key,v)->∀x y,P1 (k+m) x->P2 (k+m) y->(BL prog w).is key x=true/\y=v)->
   (∀s',s'.heap.DictOf (BL prog w) d (merged kvs more)->(∀b o,b≠d->b≠z->b≠TO->b≠i1->b≠i2->s.heap.get? b=some o->s'.heap.get? b=some o)->s'.gens=s.gens->s'.drawn=s.drawn->s'.os=s.os->R (.ok (.ret .none)) s')->
   codeAny (model prog w) A (.builtin "dict.update.loop" ⟨[.ref d,.ref z,rawInt j,.none],[]⟩) R s
 |[],k,j,s,kvs,hn,hz,on,s1,s2,hd,hp,fin=>by
  refine codeAny_builtin EJ ?_;unfold Builtin.«dict.update.loop»;show wpAny _ _ (pyNext (.ref z) >>= _) _ _ s;have kn:k=n:=by simpa using hn
  subst kn;have di1:d≠i1:=λe=>d1 (e ▸ ap.m1);refine AAA (RM ap (D1 _ hA) on s1 λh' eb=>?_);dsimp only;refine AAA (AAw (show Builtin.Dict.addKeywords d []=Pure.pure () from rfl) ?_);exact AAB (fin _ (hd.at λo e=>eb d o dz di1 e) (λb o _ b1 _ b2 _ e=>eb b o b1 b2 e) rfl rfl rfl)
 |(key,v)::more,k,j,s,kvs,hn,hz,on,s1,s2,hd,hp,fin=>by
  have hn':k+(more.length+1)=n:=hn;have hz':kvs.length+(more.length+1)<=sizeLine:=hz;have di1:d≠i1:=λe=>d1 (e ▸ ap.m1);have di2:d≠i2:=λe=>d2 (e ▸ ap.m2);refine codeAny_builtin EJ ?_;unfold Builtin.«dict.update.loop»;show wpAny _ _ (pyNext (.ref z) >>= _) _ _ s;refine AAA (RQ ap (D1 _ hA) (D2 _ hA) (by omega) on s1 s2 λx y U h' tk px py hU tup on' s1' s2' kp=>?_);dsimp only;obtain⟨hkey,rfl⟩:=hp 0 key v rfl x y px py;have hd':h'.DictOf (BL prog w) d kvs:=hd.at λo e=>kp d o dz dO di1 di2 e;refine AAA (AAo (AAA (wpAny_tryCatch ?_)));unfold Builtin.Dict.pairItems;obtain⟨o,ho,hc,m,hdat⟩:=id tup;refine AAA (wpAny_typeOf (T := "tuple") ⟨o,ho,hc⟩ ?_);rw[if_pos (by decide)];refine AAA ?_;unfold seqItems?;refine AAA (wpAny_load ho ?_);rw[hdat];refine AAB (AAB ?_);show wpAny _ _ (holding [x,y] (dictSet d x y)) _ _ _;refine AAo (wpAny_dictSet_pairs hkey hd' (λh2 hd2 sb2=>?_) (by omega));refine AAB ⟨EB _,?_⟩;have k2:∀b o,b≠d->h'.get? b=some o->h2.get? b=some o:=λb o h1 e=>(sb2.2 b h1).trans e;have lt:∀{c:Addr} {o:Obj},s.heap.get? c=some o->U≠c:=λe=>Nat.ne_of_gt (AAN (Heap.lt_size e) hU);have on2:ZOn h2 z TI TO i1 i2:=by
   obtain⟨a1,a2⟩:=on';refine⟨a1.keep λo e=>k2 TI o dI.symm e,?_⟩;rcases a2 with ⟨b1,b2,b3,b4⟩|⟨T,b,oT,c1,c2,c3,c4,c5,c6⟩
   ·exact .inl ⟨k2 z _ dz.symm b1,b2,b3,b4.keep λo e=>k2 TO o dO.symm e⟩
   ·by_cases hTd:T=d
    ·subst hTd;obtain⟨o',_,_,e',_⟩:=hd2;exact .inr ⟨T,b,o',k2 z _ dz.symm c1,e',c3,c4,c5,c6⟩
    ·exact .inr ⟨T,b,oT,k2 z _ dz.symm c1,k2 T oT hTd c2,c3,c4,c5,c6⟩
  refine Mp hA ap D1 D2 dz dI dO d1 d2 more (k+1) (j+1) _ (stored kvs key y) (by omega) ?_ on2 ((D1 _ hA).frame _ _ h2 s1' λc hc o e=>k2 c o (λz=>d1 (z ▸ hc)) e) ((D2 _ hA).frame _ _ h2 s2' λc hc o e=>k2 c o (λz=>d2 (z ▸ hc)) e) hd2 ?_ ?_
  ·have:=stored_length_le kvs key y;omega
  ·intro m key' v' e x' y' p1 p2;have e2:k+1+m=k+(m+1):=by omega
   rw[e2] at p1 p2;exact hp (m+1) key' v' (by simpa using e) x' y' p1 p2
  ·intro s' g1 g2 g3 g4 g5;exact fin s' g1 (λb o h1 h2' h3 h4 h5 e=>g2 b o h1 h2' h3 h4 h5 (k2 b o h1 (kp b o h2' h3 h4 h5 e))) g3 g4 g5
end
end L2
namespace L2
open PySem PySem.Spec PyProof.Rows
theorem Ti:∀{ks:List Key} {ys:List V} {its jts:List Value},Vals (ks.map kV) its->Vals ys jts->KV (ks.zip ys) (ks.zip jts)
 |[],_,_,_,_,_=>by rw[List.zip_nil_left,List.zip_nil_left];exact .nil
 |_::_,[],_,_,_,r=>by cases r;rw[List.zip_nil_right,List.zip_nil_right];exact .nil
 |k::ks,y::ys,_,_,r,r2=>by
  rw[AAX] at r;cases r with
  |cons a r=>
   cases r2 with
   |cons b r2=>
    rw[List.zip_cons_cons,List.zip_cons_cons];exact .cons ⟨rfl,b⟩ (Ti r r2)
theorem far(n:Nat):n+5≠n+4/\n+5≠n+2/\n+5≠n+3/\n+5≠n/\n+5≠n+1:=by omega
theorem Yj(n l:Nat)(h:l<n):n+5≠l:=by omega
theorem T1(n c:Nat)(h:c<n):c≠n+5/\c≠n+4/\c≠n+3/\c≠n/\c≠n+1:=by omega
section
variable{X:Cx}
theorem Vf(hc:X.calm=true)(hgd:Gl X "dict")(hmd:X.mg "dict" = none)(hg:Gl X "zip")(hm:X.mg "zip" = none)(ha:PA X [a,b] ta)(hs:starEach [a,b] X.env=(false,eval a X.env)::starEach [b] X.env)(hpl:(backTo pos2 (starEach [b] X.env)).any (·.1)=false):
  PE X (.Call (.Name "dict" p) [.Call (.Name "zip" p2) [a,b] [] pos2] [] pos) (λσ H Q=>ta σ H λvs H1=>∃(l m:Addr) (ks:List Key) (ys:List V),vs=[.ref l,.ref m]/\SqL X.kw H1 l (ks.map kV)/\SqT X.kw H1 m ys/\ys.length=ks.length/\ks.length<=1000/\∀q,H1 q=none->Q (.ref q) (upd H1 q (.dK (Gi [] (ks.zip ys))))):=by
 intro pins s σ H Q I h;refine wpAny_Call_Name_kw (Em I hgd hmd Mi.KO ?_);refine PyProof.Rows.callWith_type1 ?_ (Mi.As rfl) rfl;rw[Mi.As (show Mi.En (.Call (.Name "zip" p2) [a,b] [] pos2)=false from rfl)];show wpAny _ _ (spliced ((false,eval (.Call (.Name "zip" p2) [a,b] [] pos2) X.env)::[])) _ _ s;refine Calls.spliced_cons (wpAny_Call_Name_kw (Em I hg hm M4 (PyProof.Rows.callWith_type1 (thn (ha pos2 pins s σ H _ I h) λus s1 ⟨vs,H1,I1,r1,q1⟩=>?_) hs hpl)));obtain⟨l,m,ks,ys,ev,hx,hy,hl,h1000,q⟩:=q1;subst ev;obtain⟨u1,u2,eu,ru1,ru2⟩:=Vals.two r1;subst eu;cases ru1;cases ru2;obtain⟨its,rx,px,_⟩:=I1.list hx;obtain⟨jts,ry,py,_⟩:=I1.tuple hy;have px:=px.isList;have ltl:l<s1.heap.objs.size:=by obtain⟨o,e,_⟩:=px;exact Heap.lt_size e
 have ltm:m<s1.heap.objs.size:=by obtain⟨o,e,_⟩:=py;exact Heap.lt_size e
 have new:=OS (.ref l) (.ref m) { cls:=.type "list_iterator",data:=.fields #[.ref l,.int 0 0] } { cls:=.type "tuple_iterator",data:=.fields #[.ref m,.int 0 0] } (λh=>h.IsList l its.toArray) (λh=>h.IsTuple m jts.toArray) (λh x=>x.push _) (λ_ _ _ _ _ _ g z=>wpAny_pyIter_list g z) (λ_ _ _ _ _ _ g z=>wpAny_pyIter_tuple g z);refine callType_new F.called_zip (by decide) (F.typeCall_zip_2 _ _) (F.newCall_zip_2 _ _) (λobj=>F.args_object_init_3 obj _ _) F.entry_zip_new new ⟨px,py,?_⟩;generalize ho1:({ cls:=.type "list_iterator",data:=.fields #[.ref l,.int 0 0] }:Obj)=o1;generalize ho2:({ cls:=.type "tuple_iterator",data:=.fields #[.ref m,.int 0 0] }:Obj)=o2;have n1:(s1.heap.push o1).objs.size=s1.heap.objs.size+1:=Heap.size_push ..;have n2:(zh2 s1.heap o1 o2).objs.size=s1.heap.objs.size+2:=by rw[Heap.size_push,n1]
 have n3:((zh2 s1.heap o1 o2).push (Dj (.ref s1.heap.objs.size) (.ref (s1.heap.push o1).objs.size))).objs.size=s1.heap.objs.size+3:=by rw[Heap.size_push,n2]
 have n4:(zh4 s1.heap o1 o2).objs.size=s1.heap.objs.size+4:=by rw[Heap.size_push,n3]
 have n5:(zh5 s1.heap o1 o2).objs.size=s1.heap.objs.size+5:=by rw[Heap.size_push,n4]
 have kp:∀c o,s1.heap.get? c=some o->(zh5 s1.heap o1 o2).get? c=some o:=λc o e=>AAC _ (AAC _ (AAC _ (AAC _ (AAC _ e))));have f1:o1.isFreed=false:=by rw[←ho1];rfl
 have f2:o2.isFreed=false:=by rw[←ho2];rfl
 have a1:(zh5 s1.heap o1 o2).get? s1.heap.objs.size=some o1:=AAC _ (AAC _ (AAC _ (AAC _ (AAD _ f1))));have a2:(zh5 s1.heap o1 o2).get? (s1.heap.objs.size+1)=some o2:=by rw[←n1];exact AAC _ (AAC _ (AAC _ (AAD _ f2)))
 have a3:(zh5 s1.heap o1 o2).get? (s1.heap.objs.size+2)=some (Dj (.ref s1.heap.objs.size) (.ref (s1.heap.objs.size+1))):=by
  rw[←n1,←n2];exact AAC _ (AAC _ (AAD _ rfl))
 have a4:(zh5 s1.heap o1 o2).get? (s1.heap.objs.size+3)=some (Dj .none .none):=by
  rw[←n3];exact AAC _ (AAD _ rfl)
 have a5:(zh5 s1.heap o1 o2).get? (s1.heap.objs.size+4)=some (B6 (s1.heap.objs.size+2) (s1.heap.objs.size+3) .none):=by
  rw[←n4,←n2,←n3];exact AAD _ rfl
 show _/\_;rw[n4];refine⟨⟨_,a5,rfl⟩,Calls.spliced_nil ?_⟩;generalize zh5 s1.heap o1 o2=G at n5 kp a1 a2 a3 a4 a5;generalize hN:s1.heap.objs.size=N at n5 a1 a2 a3 a4 a5 ltl ltm;refine callType_codes (Q₁:=λobj s₁=>obj=.ref (N+5)/\s₁={ s1 with heap:=G.push { cls:=.type "dict",data:=.dict #[] } }) PySem.F.kt_called_dict (PySem.F.kt_typeCall_dict_1 _) PySem.F.entry_dict_init (PySem.kt_code_dict_new _ ⟨by rw[←n5],rfl⟩) ?_;rintro obj s₁ ⟨rfl,rfl⟩;have hnew:(G.push { cls:=.type "dict",data:=.dict #[] }).DictOf (BL X.prog X.w) (N+5) []:=by rw[←n5];exact Heap.DictOf.new G
 refine⟨hnew.typeIs,PySem.F.args_dict_init_2 _ _,?_⟩;unfold Builtin.«dict.__init__»;refine AAA ?_;unfold Builtin.Dict.selfAndRest;refine AAA (wpAny_notOrdered_dict hnew.typeIs ?_);show wpAny _ _ (pure (N+5,[Value.ref (N+4)])) _ _ _;refine AAB ?_;show wpAny _ _ (Builtin.Dict.updateFrom "dict.__init__" (N+5) (.ref (N+4)) [] .none) _ _ _;unfold Builtin.Dict.updateFrom;have kg:∀c o,G.get? c=some o->(G.push { cls:=.type "dict",data:=.dict #[] }).get? c=some o:=λc o e=>AAC _ e;refine AAA (wpAny_typeOf (T := "zip") ⟨_,kg _ _ a5,rfl⟩ ?_);dsimp only;rw[if_pos (by decide)];refine AAA (RP (kg _ _ a5) (show X.A.handled=none from I1.ok.hd hc) λh' tk kk=>?_);rw[if_pos (show (none:Option Value).isNone=true from rfl)];have kk':∀c o,G.get? c=some o->h'.get? c=some o:=λc o e=>kk c o (kg c o e);have hd':h'.DictOf (BL X.prog X.w) (N+5) []:=hnew.at λo e=>kk _ o e;refine AAA (wpAny_rule (AAA (Fo (kk' _ _ a5) ?_)));refine AAB ⟨EB _,?_⟩;have ap:=zap N l m ltl ltm;have l1:its.toArray.size=ks.length:=by rw[List.size_toArray];have:=rx.length;rw[AAG] at this;exact this.symm
 have l2:jts.toArray.size=ks.length:=by rw[List.size_toArray,←hl];exact ry.length.symm
 refine Mp (prog:=X.prog) (w:=X.w) (A:=X.A.in1) (n:=ks.length) (show X.A.handled=none from I1.ok.hd hc) ap (λA hA=>l1 ▸ Draws.list (prog:=X.prog) (w:=X.w) hA N l (AAe ltl) its.toArray) (λA hA=>l2 ▸ E9 (prog:=X.prog) (w:=X.w) hA (N+1) m (AAe (AAh ltm)) jts.toArray)
  (far N).1 (far N).2.1 (far N).2.2.1 (nin (far N).2.2.2.1 (Yj N l ltl)) (nin (far N).2.2.2.2 (Yj N m ltm)) (ks.zip jts) 0 0 _ [] ?_ ?_ ⟨⟨0,kk' _ _ a3⟩,.inl ⟨kk' _ _ a5,_,_,0,kk' _ _ a4⟩⟩ ⟨⟨o1,kk' _ _ a1,by rw[←ho1],by rw[←ho1];rfl⟩,by obtain⟨o,e,r⟩:=px;exact⟨o,kk' _ _ (kp _ _ e),r⟩⟩ ⟨⟨o2,kk' _ _ a2,by rw[←ho2],by rw[←ho2];rfl⟩,by obtain⟨o,e,r⟩:=py;exact⟨o,kk' _ _ (kp _ _ e),r⟩⟩ hd' ?_ ?_
 ·rw[List.length_zip,Nat.zero_add];rw[List.size_toArray] at l2;omega
 ·have:=Gc (n:=ks.length) h1000;rw[List.length_zip,List.length_nil];omega
 ·intro i key v e x y e1 e2;rw[Nat.zero_add] at e1 e2;have hz:=List.getElem?_zip_eq_some.mp e;have ek:(ks.map kV)[i]?=some (kV key):=by rw[AAW,hz.1];rfl
  obtain⟨u,g1,g2⟩:=rx.get ek;have e1':its[i]?=some x:=by simpa using e1
  rw[e1'] at g1;cases g1;have e2':jts[i]?=some y:=by simpa using e2
  rw[hz.2] at e2';cases e2';exact⟨PU g2,rfl⟩
 ·intro s' g1 g2 g3 g4 g5;obtain⟨hh,g,dr,tk',os⟩:=s';cases g3;cases g4;cases g5;have hb:((N+5:Nat)==sysModules)=false:=AAf.mpr (by have:=I1.big;rw[hN] at this;exact Yj N sysModules this);refine⟨rfl,.ref (N+5),_,I1.laid (t':=tk') (a:=N+5) (λc o e=>?_) (by rw[hN];exact Nat.le_add_right _ _) (N8 ?_ hb (KV.merge (Ti rx ry) .nil) g1),rfl,q _ (I1.hok.fresh (by rw[hN];exact Nat.le_add_right _ _))⟩
  ·have lt:=Heap.lt_size e;rw[hN] at lt;exact g2 c o (T1 N c lt).1 (T1 N c lt).2.1 (T1 N c lt).2.2.1 (T1 N c lt).2.2.2.1 (T1 N c lt).2.2.2.2 (kk' c o (kp c o e))
  ·have h1:=FT (ks.zip ys) [];have h2:=Gc h1000;rw[List.length_zip,List.length_nil] at h1;omega
end
end L2
namespace Pk
open PySem PySem.Spec PyProof.Rows L2 Mi PySem.MeetsSeq PySem.SeqAt
mutual
def draws:D->Nat
 | .tup ks=>drawsL ks+1
 |_=>1
def drawsL:List D->Nat
 |[]=>0
 |k::ks=>draws k+drawsL ks
end
mutual
def At(h:Heap):D->Value->Prop
 | .non,v=>v=.none
 | .int i,v=>∃t,v=.int i t
 | .str x,v=>∃t,v=.str x t
 | .tup ks,v=>∃a o items n,v=.ref a/\h.get? a=some o/\o.cls=.type "tuple" /\ o.data=.seq items n/\Ats h ks items.toList
 |_,_=>False
def Ats(h:Heap):List D->List Value->Prop
 |[],vs=>vs=[]
 |k::ks,vs=>∃v vs',vs=v::vs'/\At h k v/\Ats h ks vs'
end
theorem OI(a:At h .non v):v=.none:=by unfold At at a;exact a
theorem LK(a:At h (.int i) v):∃t,v=.int i t:=by unfold At at a;exact a
theorem LJ(a:At h (.str x) v):∃t,v=.str x t:=by unfold At at a;exact a
theorem Fk(a:At h (.tup ks) v):∃a o items n,v=.ref a/\h.get? a=some o/\o.cls=.type "tuple" /\ o.data=.seq items n/\Ats h ks items.toList:=by unfold At at a;exact a
theorem At.shape:∀{k:D},At h k v->(k=.non/\v=.none)∨(∃i t,k=.int i/\v=.int i t)∨(∃x t,k=.str x/\v=.str x t)∨∃ks a,k=.tup ks/\v=.ref a
 | .non,a=>.inl ⟨rfl,OI a⟩
 | .int i,a=>.inr (.inl ⟨i,(LK a).choose,rfl,(LK a).choose_spec⟩)
 | .str i,a=>.inr (.inr (.inl ⟨i,(LJ a).choose,rfl,(LJ a).choose_spec⟩))
 | .tup ks,a=>.inr (.inr (.inr (by obtain⟨x,_,_,_,e,_⟩:=Fk a;exact⟨ks,x,rfl,e⟩)))
 | .bl _,a | .ty _,a | .scr _,a | .lst _,a | .ref _,a=>by unfold At at a;exact a.elim
mutual
theorem At.inj:∀{k j:D} {v:Value},At h k v->At h j v->k=j
 | .tup ks,j,v,a,b=>by
  rcases b.shape with ⟨rfl,e⟩|⟨i,t,rfl,e⟩|⟨x,t,rfl,e⟩|⟨js,y,rfl,e⟩
  ·obtain⟨_,_,_,_,e2,_⟩:=Fk a;rw[e] at e2;cases e2
  ·obtain⟨_,_,_,_,e2,_⟩:=Fk a;rw[e] at e2;cases e2
  ·obtain⟨_,_,_,_,e2,_⟩:=Fk a;rw[e] at e2;cases e2
  ·obtain⟨x,o,items,n,rfl,h1,_,h3,h4⟩:=Fk a;obtain⟨x',o',items',n',e',h1',_,h3',h4'⟩:=Fk b;cases e';rw[h1] at h1';cases h1';rw[h3] at h3';cases h3';rw[Ats.inj h4 h4']
 | .non,j,v,a,b=>by
  cases OI a;rcases b.shape with ⟨rfl,e⟩|⟨i,t,rfl,e⟩|⟨x,t,rfl,e⟩|⟨js,y,rfl,e⟩<;>first|rfl|cases e
 | .int i,j,v,a,b=>by
  obtain⟨t,rfl⟩:=LK a;rcases b.shape with ⟨rfl,e⟩|⟨i,t,rfl,e⟩|⟨x,t,rfl,e⟩|⟨js,y,rfl,e⟩
  ·cases e
  ·injection e with e1 _;rw[e1]
  ·cases e
  ·cases e
 | .str i,j,v,a,b=>by
  obtain⟨t,rfl⟩:=LJ a;rcases b.shape with ⟨rfl,e⟩|⟨i,t,rfl,e⟩|⟨x,t,rfl,e⟩|⟨js,y,rfl,e⟩
  ·cases e
  ·cases e
  ·injection e with e1 _;rw[e1]
  ·cases e
 | .bl _,_,_,a,_ | .ty _,_,_,a,_ | .scr _,_,_,a,_ | .lst _,_,_,a,_ | .ref _,_,_,a,_=>by unfold At at a;exact a.elim
theorem Ats.inj:∀{ks js:List D} {vs:List Value},Ats h ks vs->Ats h js vs->ks=js
 |[],[],_,_,_=>rfl
 |[],_::_,vs,a,b=>by
  unfold Ats at a b;subst a;obtain⟨_,_,e,_⟩:=b;cases e
 |_::_,[],vs,a,b=>by
  unfold Ats at a b;subst b;obtain⟨_,_,e,_⟩:=a;cases e
 |k::ks,j::js,vs,a,b=>by
  unfold Ats at a b;obtain⟨v,vs',rfl,a1,a2⟩:=a;obtain⟨v',vs'',e,b1,b2⟩:=b;cases e;rw[At.inj a1 b1,Ats.inj a2 b2]
end
mutual
theorem At.kept:∀{k:D} {v:Value},At h k v->(∀a o items n,h.get? a=some o->o.cls=.type "tuple" -> o.data=.seq items n->h'.get? a=some o)->At h' k v
 | .non,v,a,_ | .int i,v,a,_ | .str i,v,a,_=>by unfold At at a ⊢;exact a
 | .tup ks,v,a,kp=>by
  unfold At at a ⊢;obtain⟨x,o,items,n,rfl,h1,h2,h3,h4⟩:=a;exact⟨x,o,items,n,rfl,kp x o items n h1 h2 h3,h2,h3,Ats.kept h4 kp⟩
 | .bl _,_,a,_ | .ty _,_,a,_ | .scr _,_,a,_ | .lst _,_,a,_ | .ref _,_,a,_=>by unfold At at a;exact a.elim
theorem Ats.kept:∀{ks:List D} {vs:List Value},Ats h ks vs->(∀a o items n,h.get? a=some o->o.cls=.type "tuple" -> o.data=.seq items n->h'.get? a=some o)->Ats h' ks vs
 |[],vs,a,_=>by unfold Ats at a ⊢;exact a
 |k::ks,vs,a,kp=>by
  unfold Ats at a ⊢;obtain⟨v,vs',rfl,a1,a2⟩:=a;exact⟨v,vs',rfl,At.kept a1 kp,Ats.kept a2 kp⟩
end
section
variable{prog:Program}{w:World}
theorem Qu(hu:A.units<cLine)(q:Q 0xFCA86420 { s with toks:=s.toks+1 }):wpAny (model prog w) A (pyHash .none) Q E s:=by
 show wpAny _ _ (pyHashByItsType .none) Q E s;refine PySem.W.pyHash_slot (T := "NoneType") rfl F.slot_NoneType_hash F.entry_NoneType_hash (F.args_NoneType_hash_1 _) (beq_builtin_none _) (.inr hu) (AAA (AAB ?_));refine AAA (wpAny_mkInt (AAB ⟨0xFCA86420,_,rfl,?_⟩));exact q
mutual
theorem At.hash:∀{k:D} {v:Value} {A:Around} {E:Value->Shared->Prop} {s:Shared} {Q:Int->Shared->Prop},A.units+deep k<cLine->At s.heap k v->Q (hD w k) { s with toks:=s.toks+draws k }->wpAny (model prog w) A (pyHash v) Q E s
 | .non,v,A,E,s,Q,hu,hk,q=>by
  unfold At at hk;subst hk;exact Qu (by omega) q
 | .int i,v,A,E,s,Q,hu,hk,q=>by
  unfold At at hk;obtain⟨t,rfl⟩:=hk;exact wpAny_pyHash_int q
 | .str i,v,A,E,s,Q,hu,hk,q=>by
  unfold At at hk;obtain⟨t,rfl⟩:=hk;exact wpAny_pyHash_str q
 | .tup ks,v,A,E,s,Q,hu,hk,q=>by
  unfold At at hk;obtain⟨a,o,items,n,rfl,h1,h2,h3,h4⟩:=hk;have hu':A.units+(deeps ks+1)<cLine:=hu;refine Nk.hash_tup (hs:=hDs w ks) (d:=drawsL ks) (by omega) h1 h2 h3 (λP p=>?_) q;exact Ats.hash (A:=A.in1) (by show A.units+1+deeps ks<cLine;omega) h4 (acc:=#[]) (by simpa using p)
 | .bl _,_,_,_,_,_,_,a,_ | .ty _,_,_,_,_,_,_,a,_ | .scr _,_,_,_,_,_,_,a,_ | .lst _,_,_,_,_,_,_,a,_ | .ref _,_,_,_,_,_,_,a,_=>by unfold At at a;exact a.elim
theorem Ats.hash:∀{ks:List D} {vs:List Value} {A:Around} {E:Value->Shared->Prop} {s:Shared} {acc:Array Int} {P:Array Int->Shared->Prop},A.units+deeps ks<cLine->Ats s.heap ks vs->P (acc++(hDs w ks).toArray) { s with toks:=s.toks+drawsL ks }->
  wpAny (model prog w) A (forIn vs acc λx r=>do let y ←pyHash x;pure (ForInStep.yield (r.push y))) P E s
 |[],vs,A,E,s,acc,P,hu,hk,q=>by
  unfold Ats at hk;subst hk;rw[List.forIn_nil];exact AAB (by simpa[hDs,drawsL] using q)
 |k::ks,vs,A,E,s,acc,P,hu,hk,q=>by
  unfold Ats at hk;obtain⟨v,vs',rfl,a1,a2⟩:=hk;rw[List.forIn_cons];have hu':A.units+max (deep k) (deeps ks)<cLine:=hu;refine AAA (AAA (At.hash (by omega) a1 (AAB ?_)));refine Ats.hash (by omega) (s:={ s with toks:=s.toks+draws k }) a2 ?_;simpa[hDs,drawsL,Nat.add_assoc] using q
end
end
theorem Ats.len:∀{ks:List D} {vs:List Value},Ats h ks vs->vs.length=ks.length
 |[],_,a=>by unfold Ats at a;subst a;rfl
 |k::ks,_,a=>by
  unfold Ats at a;obtain⟨v,vs',rfl,_,a2⟩:=a;simp[Ats.len a2]
noncomputable def C7(ks js:List D)(j:Nat):Bool:=decide (ks[j]?=js[j]?)
theorem Gn:((List.range (min ks.length js.length)).all (C7 ks js)&&ks.length==js.length)=decide (D.tup ks=D.tup js):=by
 by_cases e:ks=js
 ·subst e;rw[AAP rfl,beq_self_eq_true,Bool.and_true,List.all_eq_true];intro j _;exact AAP rfl
 ·rw[AAO (λz=>e (D.tup.inj z))];by_cases hl:ks.length=js.length
  ·rw[beq_iff_eq.mpr hl,Bool.and_true,←Bool.not_eq_true];intro z;rw[List.all_eq_true] at z;refine e (List.ext_getElem? λj=>?_);by_cases hj:j<ks.length
   ·exact of_decide_eq_true (z j (List.mem_range.mpr (by omega)))
   ·rw[List.getElem?_eq_none (by omega),List.getElem?_eq_none (by omega)]
  ·rw[AAf.mpr hl,Bool.and_false]
theorem PV(a:At h (.tup ks) v):∃x items,v=.ref x/\h.IsTuple x items:=by
 unfold At at a;obtain⟨x,o,items,n,rfl,h1,h2,h3,_⟩:=a;exact⟨x,items,rfl,o,h1,h2,n,h3⟩
mutual
theorem At.eq:∀{k j:D} {u v:Value} {A:Around} {s:Shared},A.units+deep k<cLine->At s.heap k u->At s.heap j v->EqAt A s u v (decide (k=j))
 | .non,j,u,v,A,s,hu,a,b=>by
  have hu':A.units<cLine:=AAr (Nat.le_add_right _ _) hu;unfold At at a;subst a;cases j with
  |non=>unfold At at b;subst b;rw[AAP rfl];exact EqAt.same _
  |int i=>unfold At at b;obtain⟨t,rfl⟩:=b;rw[AAO (by intro z;cases z)];exact EqAt.none_int i t
  |str i=>unfold At at b;obtain⟨t,rfl⟩:=b;rw[AAO (by intro z;cases z)];exact EqAt.none_str i t
  |tup ks=>obtain⟨x,its,rfl,h⟩:=PV b;rw[AAO (by intro z;cases z)];exact EqAt.none_tuple h hu'
  |_=>unfold At at b;exact b.elim
 | .int i,j,u,v,A,s,hu,a,b=>by
  have hu':A.units<cLine:=AAr (Nat.le_add_right _ _) hu;unfold At at a;obtain⟨t,rfl⟩:=a;cases j with
  |non=>unfold At at b;subst b;rw[AAO (by intro z;cases z)];exact EqAt.int_none i t
  |int j=>
   unfold At at b;obtain⟨t',rfl⟩:=b;have:decide (D.int i=D.int j)=(i==j):=by
    by_cases e:i=j
    ·subst e;simp
    ·rw[AAO (λz=>e (D.int.inj z)),AAf.mpr e]
   rw[this];exact EqAt.int_int i t j t'
  |str j=>unfold At at b;obtain⟨t',rfl⟩:=b;rw[AAO (by intro z;cases z)];exact EqAt.int_str i t j t'
  |tup ks=>obtain⟨x,its,rfl,h⟩:=PV b;rw[AAO (by intro z;cases z)];exact EqAt.int_tuple i t h hu'
  |_=>unfold At at b;exact b.elim
 | .str i,j,u,v,A,s,hu,a,b=>by
  have hu':A.units<cLine:=AAr (Nat.le_add_right _ _) hu;unfold At at a;obtain⟨t,rfl⟩:=a;cases j with
  |non=>unfold At at b;subst b;rw[AAO (by intro z;cases z)];exact EqAt.str_none i t
  |str j=>
   unfold At at b;obtain⟨t',rfl⟩:=b;have:decide (D.str i=D.str j)=(i==j):=by
    by_cases e:i=j
    ·subst e;simp
    ·rw[AAO (λz=>e (D.str.inj z)),AAf.mpr e]
   rw[this];exact EqAt.str_str i t j t'
  |int j=>unfold At at b;obtain⟨t',rfl⟩:=b;rw[AAO (by intro z;cases z)];exact EqAt.str_int i t j t'
  |tup ks=>obtain⟨x,its,rfl,h⟩:=PV b;rw[AAO (by intro z;cases z)];exact EqAt.str_tuple i t h hu'
  |_=>unfold At at b;exact b.elim
 | .tup ks,j,u,v,A,s,hu,a,b=>by
  have hu0:A.units<cLine:=AAr (Nat.le_add_right _ _) hu;obtain⟨x0,its0,e0,h0⟩:=PV a;cases j with
  |non=>unfold At at b;subst b e0;rw[AAO (by intro z;cases z)];exact EqAt.tuple_none h0 hu0
  |int j=>unfold At at b;obtain⟨t',rfl⟩:=b;subst e0;rw[AAO (by intro z;cases z)];exact EqAt.tuple_int j t' h0 hu0
  |str j=>unfold At at b;obtain⟨t',rfl⟩:=b;subst e0;rw[AAO (by intro z;cases z)];exact EqAt.tuple_str j t' h0 hu0
  |tup js=>
   have a':=a;have b':=b;unfold At at a b;obtain⟨x,o,items,n,rfl,h1,h2,h3,h4⟩:=a;obtain⟨y,o',items',n',rfl,h1',h2',h3',h4'⟩:=b;have hu':A.units+(deeps ks+1)<cLine:=hu;by_cases e:x=y
   ·subst e;rw[At.inj a' b',AAP rfl];exact EqAt.same _
   ·rw[←Gn];have l1:=h4.len;have l2:=h4'.len;rw[Array.length_toList] at l1 l2;rw[←l1,←l2];refine EqAt.of_refs e (RcAt.tuples ⟨o,h1,h2,n,h3⟩ ⟨o',h1',h2',n',h3'⟩ (by omega) λj g1 g2=>?_);have:=Ats.eqs (A:=A.in1) (by show A.units+1+deeps ks<cLine;omega) h4 h4' j (by simpa using g1) (by simpa using g2);simpa using this
  |_=>unfold At at b;exact b.elim
 | .bl _,_,_,_,_,_,_,a,_ | .ty _,_,_,_,_,_,_,a,_ | .scr _,_,_,_,_,_,_,a,_ | .lst _,_,_,_,_,_,_,a,_ | .ref _,_,_,_,_,_,_,a,_=>by unfold At at a;exact a.elim
theorem Ats.eqs:∀{ks js:List D} {us vs:List Value} {A:Around} {s:Shared},A.units+deeps ks<cLine->Ats s.heap ks us->Ats s.heap js vs->∀(j:Nat) (h1:j<us.length) (h2:j<vs.length),EqAt A s us[j] vs[j] (C7 ks js j)
 |[],js,us,vs,A,s,hu,a,b,j,h1,h2=>by unfold Ats at a;subst a;simp at h1
 |k::ks,[],us,vs,A,s,hu,a,b,j,h1,h2=>by unfold Ats at b;subst b;simp at h2
 |k::ks,l::js,us,vs,A,s,hu,a,b,j,h1,h2=>by
  unfold Ats at a b;obtain⟨u,us',rfl,a1,a2⟩:=a;obtain⟨v,vs',rfl,b1,b2⟩:=b;have hu':A.units+max (deep k) (deeps ks)<cLine:=hu;cases j with
  |zero=>
   have:=At.eq (k:=k) (j:=l) (A:=A) (by omega) a1 b1;have e:C7 (k::ks) (l::js) 0=decide (k=l):=by unfold C7;simp
   rw[e];exact this
  |succ j=>
   have:=Ats.eqs (A:=A) (by omega) a2 b2 j (by simpa using h1) (by simpa using h2);have e:C7 (k::ks) (l::js) (j+1)=C7 ks js j:=by unfold C7;simp
   rw[e];simpa using this
end
section
variable{prog:Program}{w:World}
theorem At.quiet:∀(d:Nat) {k:D} {v:Value} {A:Around} {E:Value->Shared->Prop} {s:Shared} {Q:Bool->Shared->Prop},deep k<=d->At s.heap k v->Q true s->wpAny (model prog w) A (eqIsQuiet d v) Q E s
 |d,.non,v,A,E,s,Q,hd,a,q=>by
  cases OI a;unfold eqIsQuiet;exact AAB q
 |d,.int i,v,A,E,s,Q,hd,a,q=>by
  obtain⟨t,rfl⟩:=LK a;unfold eqIsQuiet;exact AAB q
 |d,.str i,v,A,E,s,Q,hd,a,q=>by
  obtain⟨t,rfl⟩:=LJ a;unfold eqIsQuiet;exact AAB q
 |0,.tup ks,v,A,E,s,Q,hd,a,q=>by
  have hd':deeps ks+1<=0:=hd;omega
 |d'+1,.tup ks,v,A,E,s,Q,hd,a,q=>by
  have hd':deeps ks+1<=d'+1:=hd;obtain⟨x,o,items,n,rfl,h1,h2,h3,h4⟩:=Fk a;have hT:s.TypeIs (.ref x) "tuple" := ⟨o,h1,h2⟩;unfold eqIsQuiet;refine AAA (wpAny_specialOf hT PySem.F.slot_tuple_eq.lookup ?_);show wpAny _ _ (isInstance (.ref x) (.type "tuple") >>= _) _ _ s;refine AAA (AA0 hT isSubtype_tuple_tuple ?_);simp only[Bool.not_true,Bool.false_eq_true,if_false];refine AAA (AAy h1 h3 (AAA ?_));show wpAny _ _ (forIn items _ _) _ _ s;rw[←Array.forIn_toList];refine wpAny_forIn_list _ (λBG r s'=>r.1=none/\s'=s/\∃ks',deeps ks'<=d'/\Ats s.heap ks' BG) _ ?_ ?_ _ _ ⟨rfl,rfl,ks,by omega,h4⟩
  ·rintro y BG r s' ⟨hr,rfl,ks',hk,at'⟩;cases ks' with
   |nil=>unfold Ats at at';cases at'
   |cons k' ks'=>
    unfold Ats at at';obtain⟨_,_,e,a1,a2⟩:=at';cases e;have hk':max (deep k') (deeps ks')<=d':=hk;refine AAA (At.quiet d' (k:=k') (by omega) a1 ?_);simp only[Bool.not_true,Bool.false_eq_true,if_false];exact AAB ⟨rfl,rfl,ks',by omega,a2⟩
  ·rintro⟨r1,r2⟩ s' ⟨hr,rfl,_⟩;simp only at hr;subst hr;exact AAB q
 |_,.bl _,_,_,_,_,_,_,a,_|_,.ty _,_,_,_,_,_,_,a,_|_,.scr _,_,_,_,_,_,_,a,_|_,.lst _,_,_,_,_,_,_,a,_|_,.ref _,_,_,_,_,_,_,a,_=>by unfold At at a;exact a.elim
end
noncomputable def kind(prog:Program)(w:World):HeapKind prog w D where
 is:=λh k a=>At h k (.ref a)/\deep k<=8
 hash:=hD w
 draws:=draws
 room:=λA=>A.units+8<cLine
 inj:=λhx hy=>hx.1.inj hy.1
 keeps:=λ{h h' k a d o es ep} x ho hd hs=>⟨x.1.kept λb o' items n e _ e3=>by
  have hne:b≠d:=by
   intro z;subst z;rw[ho] at e;cases e;rw[hd] at e3;cases e3
  exact(hs.2 b hne).trans e,x.2⟩
 pyHash:=λhu hk h=>At.hash (by have:=hk.2;omega) hk.1 h
 eqBool:=λ{A E s x y a b Q} hu hx hy h=>At.eq (by have:=hx.2;omega) hx.1 hy.1 _ _ E Q h
 quiet:=λhk h=>At.quiet 8 hk.2 hk.1 h
section
variable{X:Cx}{pins:List (Addr×Obj)}{σ:L2.St}{H:Hp}{s:Shared}{ι:Nat->Addr}{k:Nat}
mutual
theorem NA(I:Inv X pins σ H s):∀{d:D} {v:V} {u:Value},Kz d=true->Is X.kw ι k H d v->RelV v u->At s.heap d u
 | .non,v,u,_,i,r=>by unfold Is at i;subst i;unfold At;exact r
 | .int _,v,u,_,i,r=>by unfold Is at i;subst i;unfold At;exact r
 | .str _,v,u,_,i,r=>by unfold Is at i;subst i;unfold At;exact r
 | .tup ds,v,u,z,i,r=>by
  unfold Is at i;obtain⟨p,vs,rfl,h1,h2⟩:=i;cases r;obtain⟨its,rv,⟨o,g1,g2,n,g3⟩,_⟩:=I.tuple h1;unfold At;exact⟨p,o,_,n,rfl,g1,g2,g3,LI I z h2 rv⟩
 | .bl _,_,_,z,_,_ | .ty _,_,_,z,_,_ | .scr _,_,_,z,_,_ | .lst _,_,_,z,_,_ | .ref _,_,_,z,_,_=>by cases z
theorem LI(I:Inv X pins σ H s):∀{ds:List D} {vs:List V} {us:List Value},KzL ds=true->Mi.IsL X.kw ι k H ds vs->Vals vs us->Ats s.heap ds us
 |[],vs,us,_,i,r=>by unfold Mi.IsL at i;subst i;cases r;unfold Ats;rfl
 |d::ds,vs,us,z,i,r=>by
  unfold Mi.IsL at i;obtain⟨v,vs',rfl,i1,i2⟩:=i;cases r with
  |cons e t=>
   unfold KzL at z;rw[Bool.and_eq_true] at z;unfold Ats;exact⟨_,_,rfl,NA I z.1 i1 e,LI I z.2 i2 t⟩
end
theorem isP(I:Inv X pins σ H s)(z:Kz d=true)(hd:deep d<=8)(i:Is X.kw ι k H d (.ref a)):(kind X.prog X.w).is s.heap d a:=⟨NA I z i rfl,hd⟩
end
noncomputable def B0(l:List (D×Addr×V))(us:List Value):List (D×Addr×Value):=(l.zip us).map λx=>(x.1.1,x.1.2.1,x.2)
theorem Fp(h:l.length=us.length):(B0 l us).map (·.1)=l.map (·.1):=by
 unfold B0;rw[List.map_map];have:((λy:D×Addr×Value=>y.1) ∘ λx:(D×Addr×V)×Value=>(x.1.1,x.1.2.1,x.2))=(λy:D×Addr×V=>y.1) ∘ Prod.fst:=rfl;rw[this,←List.map_map,List.map_fst_zip (by omega)]
theorem CO(h:l.length=us.length):(atKey (B0 l us) c).isSome=l.any λy=>decide (y.1=c):=by
 have e:(atKey (B0 l us) c).isSome=((B0 l us).map (·.1)).any λy=>decide (y=c):=by
  unfold atKey;rw[Option.isSome_map,List.any_map];rw[Bool.eq_iff_iff,List.find?_isSome,List.any_eq_true];rfl
 rw[e,Fp h,List.any_map];rfl
theorem aQ(hk:HOk P w H h)(e:H p=some (EK w' p l)):∃(us:List Value) (o:Obj) (es:Array DictEntry) (ep:Nat),Vals (l.map (·.2.2)) us/\h.get? p=some o/\o.ExactDict/\o.data=.dict es ep /\
  es.toList=(l.zip us).map (λx=>{ key:=.ref x.1.2.1,hash:=hD w' x.1.1,val:=x.2 })/\(l.map (·.1)).Nodup/\l.length<=sizeLine/\(p==sysModules)=false:=(hk p _ e).1
theorem XC (x:∃(us:List Value) (o:Obj) (es:Array DictEntry) (ep:Nat),Vals (l.map (·.2.2)) us/\h.get? p=some o/\o.ExactDict/\o.data=.dict es ep /\
  es.toList=(l.zip us).map (λx=>{ key:=.ref x.1.2.1,hash:=hD w' x.1.1,val:=x.2 })/\(l.map (·.1)).Nodup/\l.length<=sizeLine/\(p==sysModules)=false):ObjOk P w H h p (EK w' p l):=by
 refine⟨x,?_,?_⟩
 ·obtain⟨us,o,es,ep,_,h1,_⟩:=x;exact⟨o,h1⟩
 ·rintro h1 h2 ⟨us,o,es,ep,a1,a2,a3⟩ k;exact⟨us,o,es,ep,a1,k o a2,a3⟩
theorem aR(hl:l.length=us.length)(h1:h.get? p=some o)(h2:o.ExactDict)(h3:o.data=.dict es ep)
  (h4:es.toList=(l.zip us).map (λx=>{ key:=.ref x.1.2.1,hash:=hD w x.1.1,val:=x.2 })) (h5:(l.map (·.1)).Nodup) (hi:∀y∈l,(kind P w).is h y.1 y.2.1):h.DictOfH (kind P w) p (B0 l us):=by
 refine⟨o,es,ep,h1,h2,h3,?_,?_,?_⟩
 ·rw[h4];unfold B0;rw[List.map_map];rfl
 ·intro x hx;unfold B0 at hx;obtain⟨y,hy,rfl⟩:=AAM.mp hx;exact hi y.1 (List.of_mem_zip (a:=y.1) (b:=y.2) hy).1
 ·rw[Fp hl];exact h5
end Pk
namespace Mi
open PySem L2 Pk
section
variable{K:KW}{ι:Nat->Addr}{k:Nat}{H:Hp}
theorem PVs.keys:∀{l:List (D×D)} {r:List (D×Addr×V)},PVs K ι k H l r->r.map (·.1)=l.map (·.1)
 |[],_,h=>by cases h;rfl
 |(y,d)::l,_,h=>by
  obtain⟨a,v,r',rfl,_,_,h3⟩:=h;rw[AAX,AAX,PVs.keys h3]
theorem PVs.at:∀{l:List (D×D)} {r:List (D×Addr×V)},PVs K ι k H l r->∀y∈r,Kz y.1=true/\deep y.1<=8/\Is K ι k H y.1 (.ref y.2.1)
 |[],_,h,y,hy=>by cases h;cases hy
 |(z,d)::l,_,h,y,hy=>by
  obtain⟨a,v,r',rfl,h1,_,h3⟩:=h;rcases AAJ.mp hy with rfl|hy
  ·exact h1
  ·exact PVs.at h3 y hy
theorem PVs.app(h1:Kz c=true/\deep c<=8/\Is K ι k H c (.ref a))(h2:Is K ι k H d v):∀{l:List (D×D)} {r:List (D×Addr×V)},PVs K ι k H l r->PVs K ι k H (l++[(c,d)]) (r++[(c,a,v)])
 |[],_,h=>by cases h;exact⟨a,v,[],rfl,h1,h2,rfl⟩
 |(z,e)::l,_,h=>by
  obtain⟨b,w,r',rfl,g1,g2,g3⟩:=h;exact⟨b,w,_,rfl,g1,g2,PVs.app h1 h2 g3⟩
noncomputable def NO(l:List (D×D))(c:D):Option D:=(l.find? λz=>decide (z.1=c)).map (·.2)
theorem PVs.val:∀{l:List (D×D)} {r:List (D×Addr×V)} {d:D} {us:List Value},PVs K ι k H l r->Vals (r.map (·.2.2)) us->NO l c=some d->∃v u p,Is K ι k H d v/\RelV v u/\atKey (B0 r us) c=some (p,u)
 |[],_,d,us,h,_,e=>by cases e
 |(z,x)::l,_,d,us,h,vs,e=>by
  obtain⟨b,v,r',rfl,g1,g2,g3⟩:=h;rw[AAX] at vs;cases vs with
  |@cons _ u _ us' rv t=>
   by_cases hz:z=c
   ·subst hz;have:d=x:=by simpa[NO] using e.symm
    subst this;exact⟨v,u,b,g2,rv,by simp[atKey,B0]⟩
   ·have e':NO l c=some d:=by simpa[NO,hz] using e
    obtain⟨v',u',p,i1,i2,i3⟩:=PVs.val g3 t e';refine⟨v',u',p,i1,i2,?_⟩;simpa[atKey,B0,hz] using i3
end
theorem KZ{α β:Type}{l:List (D×α)}{r:List (D×β)}(h:r.map (·.1)=l.map (·.1))(c:D):(r.any λy=>decide (y.1=c))=l.any λy=>decide (y.1=c):=by
 have e1:(r.any λy=>decide (y.1=c))=(r.map (·.1)).any λy=>decide (y=c):=by rw[List.any_map];rfl
 have e2:(l.any λy=>decide (y.1=c))=(l.map (·.1)).any λy=>decide (y=c):=by rw[List.any_map];rfl
 rw[e1,e2,h]
noncomputable def UY:D->M (Nat×List (D×D))
 | .ref n=>λμ=>match μ[n]? with
  |some (.dP l)=>some ((n,l),μ)
  |_=>none
 |_=>BK
theorem G5(R:RelH K ι μ H)(i:Is K ι μ.length H d v)(e:UY d μ=some (r,μ')):μ'=μ/\d=.ref r.1/\μ[r.1]?=some (.dP r.2)/\v=.ref (ι r.1)/\∃kvs,H (ι r.1)=some (EK K.w (ι r.1) kvs)/\PVs K ι μ.length H r.2 kvs:=by
 cases d with
 |ref n=>
  unfold UY at e;dsimp only at e;split at e
  ·rename_i l hq;cases e;unfold Is at i;obtain⟨u,h1,kvs,rfl,h2⟩:=R.obj n _ hq;exact⟨rfl,rfl,hq,i.2,kvs,h1,h2⟩
  ·cases e
 |_=>cases e
section
variable{X:Cx}{e o i:Expr}{pos pos':Pos}
noncomputable def TY:Sl->M D:=λ_ μ=>some (.ref μ.length,μ++[.dP []])
theorem TD:PE X (.Dict [] [] pos) (λ_ H Q=>∀p,H p=none->Q (.ref p) (upd H p (EK w p []))):=λpins s σ H Q I h=>
 wpAny_Dict_empty ⟨.ref s.heap.objs.size,_,I.laid (a:=s.heap.objs.size) (o:=EK w s.heap.objs.size []) (t':=s.toks) (λ_ _ q=>AAC _ q) (AAF _)
  (XC ⟨[],_,#[],0,.nil,AAD _ rfl,⟨rfl,rfl,rfl⟩,rfl,rfl,List.nodup_nil,AAk _,AAf.mpr (Ne.symm (AAe I.big))⟩),rfl,h _ (I.hok.fresh (AAF _))⟩
theorem L6:RE X (.Dict [] [] pos) TY:=RE.wk (TD (w:=X.w)) λσ H Q h=>by
 obtain⟨ι,μ,τ,d,μ',R,S,e,q⟩:=h;cases e;intro p hp;obtain⟨ι',E1,R1,e0⟩:=R.grown (m:=.dP []) (o:=EK X.w p []) hp ⟨[],rfl,rfl⟩;exact q ι' _ E1 R1 _ (by unfold Is;exact⟨by simp,by rw[e0]⟩)
theorem L1(hr:Room k X.A):(Pk.kind X.prog X.w).room X.A.in1:=by
 have:=hr.units;show X.A.units+1+8<cLine;omega
theorem Iu(I:Inv X pins σ H s)(h:H p=some (EK X.w p l))(hi:∀y∈l,Kz y.1=true/\deep y.1<=8/\Is X.kw ι k H y.1 (.ref y.2.1)):
  ∃us,l.length=us.length/\Vals (l.map (·.2.2)) us/\s.heap.DictOfH (Pk.kind X.prog X.w) p (B0 l us)/\(l.map (·.1)).Nodup/\l.length<=sizeLine/\(p==sysModules)=false:=by
 obtain⟨us,o,es,ep,h0,h1,h2,h3,h4,h5,h6,h7⟩:=aQ I.hok h;have hl:l.length=us.length:=by have:=h0.length;simpa using this
 exact⟨us,hl,h0,aR hl h1 h2 h3 h4 h5 λy hy=>isP I (hi y hy).1 (hi y hy).2.1 (hi y hy).2.2,h5,h6,h7⟩
noncomputable def MS(d:D):Option D:=match d with
 | .tup ds=>if Kz (.tup ds)=true/\deep (.tup ds)<=8 then some (.tup ds) else none
 |_=>none
theorem Gp(h:MS d=some c):c=d/\(∃ds,d=.tup ds)/\Kz d=true/\deep d<=8:=by
 unfold MS at h;split at h
 ·split at h
  ·rename_i ds z;cases h;exact⟨rfl,⟨ds,rfl⟩,z⟩
  ·cases h
 ·cases h
noncomputable def X2(neg:Bool)(y d:D):M D:=bnd (UY d) λr=>λμ=>(MS y).map λc=>(.bl (if neg then !(r.2.any λz=>decide (z.1=c)) else r.2.any λz=>decide (z.1=c)),μ)
theorem MC{k:Nat}(hr:Room k X.A):OpR X (compareOp .NotIn) (rM X.kw (X2 true)):=λpins s σ H x y v u Q I rx ry h=>by
 obtain⟨ι,μ,a,b,d,μ',R,ia,ib,e,q⟩:=h;obtain⟨r,μ1,e1,e2⟩:=AL e;obtain⟨hm,_,g1,rfl,kvs,g2,g3⟩:=G5 R ib e1;subst hm;cases hc:MS a with
 |none=>rw[hc] at e2;cases e2
 |some c=>
  rw[hc] at e2;cases e2;obtain⟨rfl,⟨ds,rfl⟩,kz,kd⟩:=Gp hc;have ia':=ia;unfold Is at ia';obtain⟨pa,_,rfl,_⟩:=ia';cases rx;cases ry;obtain⟨us,hl,_,dd,_,_,lo⟩:=Iu I g2 g3.at;refine PyProof.Rows.wpAny_notIn_heap (L1 hr) (isP I kz kd ia) lo dd ?_;rw[Pk.CO hl,KZ g3.keys];exact⟨.bl _,H,I.tok _,rfl,q ι H R.ext0 R _ (ofB _)⟩
noncomputable def S7(d y:D):M D:=bnd (UY d) λr=>λμ=>((MS y).bind (NO r.2)).map λv=>(v,μ)
theorem O2(hr:Room k X.A)(ho:RE X o mo)(hi:RE X i mi)(hs:RF i:=by exact λ_ _=>rfl):RE X (.Subscript o i pos) (mOp S7 mo mi):=by
 refine RE.wk (t:=λσ H Q=>tE X.kw mo σ H λx H1=>tE X.kw mi σ H1 λy H2=>∃(p:Addr) (l:List (D×D)×List (D×Addr×V)) (c d:D) (a:Addr) (ι:Nat->Addr) (k:Nat),x=.ref p/\y=.ref a/\H2 p=some (EK X.w p l.2)/\PVs X.kw ι k H2 l.1 l.2/\Kz c=true/\deep c<=8/\Is X.kw ι k H2 c (.ref a)/\NO l.1 c=some d/\∀v,Is X.kw ι k H2 d v->Q v H2) (λpins s σ H Q I h=>?_) λσ H Q h=>?_
 ·refine Kj PySem.F.slot_dict_getitem.lookup hs (thn (ho.pe pins s σ H _ I h) λu s1 ⟨x,H1,I1,rx,q1⟩=>thn (hi.pe pins s1 σ H1 _ I1 q1) λiv s2 ⟨y,H2,I2,ry,p,l,c,d,a,ι,k,ex,ey,e,pv,kz,kd,ic,vd,q2⟩=>?_);subst ex ey;cases rx;cases ry;obtain⟨us,hl,hvs,dd,_,_,lo⟩:=Iu I2 e pv.at;obtain⟨v,uu,pp,iv,rv,at_⟩:=pv.val hvs vd;refine⟨dd.typeIs,wpAny_getItem_heap (L1 hr) (isP I2 kz kd ic) dd at_ ?_⟩;exact⟨v,H2,I2.tok _,rv,q2 v iv⟩
 ·obtain⟨ι,μ,τ,d,μ',R,S,e,q⟩:=h;obtain⟨x,μ1,e1,ee1⟩:=AL e;obtain⟨y,μ2,e2,ee2⟩:=AL ee1;obtain⟨r,μ3,e3,ee3⟩:=AL ee2;refine⟨ι,μ,τ,x,μ1,R,S,e1,λι1 H1 E1 R1 v1 i1=>⟨ι1,μ1,τ,y,μ2,R1,S.ext E1,e2,λι2 H2 E2 R2 v2 i2=>?_⟩⟩;obtain⟨hm,_,g1,rfl,kvs,g2,g3⟩:=G5 R2 (i1.ext E2) e3;subst hm;cases hc:MS y with
  |none=>rw[hc] at ee3;cases ee3
  |some c=>
   rw[hc,Option.bind_some] at ee3;obtain⟨rfl,⟨ds,rfl⟩,kz,kd⟩:=Gp hc;cases hv:NO r.2 (.tup ds) with
   |none=>rw[hv] at ee3;cases ee3
   |some dv=>
    rw[hv] at ee3;cases ee3;have i2':=i2;unfold Is at i2';obtain⟨pa,_,rfl,_⟩:=i2';exact⟨_,(r.2,kvs),_,_,pa,ι2,_,rfl,rfl,g2,g3,kz,kd,i2,hv,λv iv=>q ι2 H2 (E1.trans E2) R2 v iv⟩
noncomputable def SN(mo mi mv:Sl->M D):Sl->M (Fl×Sl):=λτ=>bnd (mv τ) λv=>bnd (mo τ) λx=>bnd (mi τ) λy=>bnd (UY x) λr=>λμ=>match MS y with
 |some c=>if r.2.length<sizeLine/\(r.2.any λz=>decide (z.1=c))=false then some ((.next,τ),μ.set r.1 (.dP (r.2++[(c,v)]))) else none
 |none=>none
noncomputable def ZR(td ty tv:TE)(K:KW)(w:World):TS:=λDn σ H=>tv σ H λv H1=>td σ H1 λx H2=>ty σ H2 λy H3=>∃p l c a ι k,x=.ref p/\y=.ref a/\H3 p=some (EK w p l)/\(∀z∈l,Kz z.1=true/\deep z.1<=8/\Is K ι k H3 z.1 (.ref z.2.1))/\(Kz c=true/\deep c<=8/\Is K ι k H3 c (.ref a))/\l.length<sizeLine/\(l.any λz=>decide (z.1=c))=false/\Dn.nx σ (upd H3 p (EK w p (l++[(c,a,v)])))
theorem VV(hr:Room k0 X.A)(ho:PE X o td)(hi:PE X i ty)(hv:PE X value tv)(hs:swapsWith value (some (.Subscript o i pos')) pos.line X.env=pure false):
  PS X (.Assign [.Subscript o i pos'] value pos) (ZR td ty tv X.kw X.w):=by
 intro pins s σ H D I h;refine wpAny_Assign_Subscript (thn (hv pins s σ H _ I h) λr s1 ⟨v,H1,I1,rv,q1⟩=>thn (ho pins s1 σ H1 _ I1 q1) λu s2 ⟨x,H2,I2,rx,q2⟩=>thn (hi pins s2 σ H2 _ I2 q2) λiv s3 ⟨y,H3,I3,ry,p,l,c,a,ι,k,ex,ey,e,hl,hc,hz,hn,q3⟩=>?_) hs;subst ex ey;cases rx;cases ry;obtain⟨us,hlen,hvs,dd,nd,hs,lo⟩:=Iu I3 e hl;have hx:(B0 l us).length=l.length:=by unfold B0;rw[AAG,List.length_zip];omega
 have no:atKey (B0 l us) c=none:=by
  have:=Pk.CO (c:=c) hlen;rw[hn] at this;cases z:atKey (B0 l us) c with
  |none=>rfl
  |some _=>rw[z] at this;cases this
 refine wpAny_setItem_heap (hsz:=by omega) (L1 hr) (isP I3 hc.1 hc.2.1 hc.2.2) dd λh' dd' sb=>⟨σ,_,?_,q3⟩;rw[storedH_new no] at dd';obtain⟨o',es',ep',d1,d2,d3,d4,_,_⟩:=dd';refine Hc I3 (by rw[e];exact True.intro) sb ⟨o',d1⟩ (XC ⟨us++[r],o',es',ep',?_,d1,d2,d3,?_,?_,?_,lo⟩)
 ·rw[AAY];exact hvs.append (.cons rv .nil)
 ·rw[d4,List.zip_append hlen,AAY];unfold B0;rw[AAY,List.map_map];rfl
 ·rw[AAY];refine List.nodup_append.mpr ⟨nd,by simp,?_⟩;intro z hz' w hw;have hw':w=c:=by simpa using hw
  intro hzc;obtain⟨t,ht,et⟩:=AAM.mp hz';have et':t.1=c:=et.trans (hzc.trans hw');have:(l.any λz=>decide (z.1=c))=true:=List.any_eq_true.mpr ⟨t,ht,by simp[et']⟩;rw[hn] at this;cases this
 ·rw[AAH];simp;omega
theorem Ox{value:Expr}{k:Nat}(hr:Room k X.A)(ho:RE X o mo)(hi:RE X i mi)(hv:RE X value mv)(hs:swapsWith value (some (.Subscript o i pos')) pos.line X.env=pure false:=by rfl):RS X (.Assign [.Subscript o i pos'] value pos) (SN mo mi mv):=RS.wk (VV hr ho.pe hi.pe hv.pe hs) λDn σ H h=>by
 obtain⟨ι,μ,τ,f,τ',μ',R,S,e,q⟩:=h;obtain⟨v,μ1,e1,ee1⟩:=AL e;obtain⟨x,μ2,e2,ee2⟩:=AL ee1;obtain⟨y,μ3,e3,ee3⟩:=AL ee2;obtain⟨r,μ4,e4,ee4⟩:=AL ee3;refine⟨ι,μ,τ,v,μ1,R,S,e1,λι1 H1 E1 R1 v1 i1=>⟨ι1,μ1,τ,x,μ2,R1,S.ext E1,e2,λι2 H2 E2 R2 v2 i2=>⟨ι2,μ2,τ,y,μ3,R2,S.ext (E1.trans E2),e3,λι3 H3 E3 R3 v3 i3=>?_⟩⟩⟩;obtain⟨hm,hx,g1,hv2,kvs,g2,g3⟩:=G5 R3 (i2.ext E3) e4;subst hm;have E13:=(E1.trans E2).trans E3;cases hk:MS y with
 |none=>rw[hk] at ee4;cases ee4
 |some c=>
  rw[hk] at ee4;have ee4:(if r.2.length<sizeLine/\(r.2.any λz=>decide (z.1=c))=false then some ((Fl.next,τ),List.set μ4 r.1 (MO.dP (r.2++[(c,v)]))) else none)=some ((f,τ'),μ'):=ee4;split at ee4
  ·rename_i hl;cases ee4;obtain⟨rfl,⟨ds,rfl⟩,kz,kd⟩:=Gp hk;have i3':=i3;unfold Is at i3';obtain⟨a,_,rfl,_⟩:=i3';have hlt:r.1<List.length μ4:=(AAU.mp g1).1;have hkl:kvs.length=r.2.length:=by have:=congrArg List.length g3.keys;simpa using this
   obtain⟨E4,R4⟩:=R3.changed (m:=.dP (r.2++[(.tup ds,v)])) (o:=EK X.w (ι3 r.1) (kvs++[(.tup ds,a,v1)])) hlt ⟨_,rfl,PVs.app ⟨kz,kd,i3⟩ (i1.ext (E2.trans E3)) g3⟩;exact⟨_,kvs,_,a,ι3,_,hv2,rfl,g2,g3.at,⟨kz,kd,i3⟩,by omega,by rw[KZ g3.keys];exact hl.2,q ι3 _ (E13.trans E4) R4 σ (S.ext (E13.trans E4))⟩
  ·cases ee4
end
end Mi
namespace Mi
open PySem L2
noncomputable def PR:List D->Option (List Key)
 |[]=>some []
 |d::ds=>match K8 d,PR ds with
  |some k,some ks=>some (k::ks)
  |_,_=>none
theorem MR:∀{ds:List D} {vs:List V} {ks:List Key},IsL K ι k H ds vs->PR ds=some ks->vs=ks.map kV
 |[],vs,ks,i,e=>by cases e;unfold IsL at i;exact i
 |d::ds,vs,ks,i,e=>by
  unfold IsL at i;obtain⟨v,vs',rfl,i1,i2⟩:=i;unfold PR at e;split at e
  ·rename_i ky ks' h1 h2;cases e;rw[AAX,MR i2 h2,K7 i1 h1]
  ·cases e
noncomputable def Nm(kvs more:List (Key×D)):List (Key×D):=more.foldl (λacc kv=>JP acc kv.1 kv.2) kvs
theorem J4:∀{ks:List Key} {ds:List D} {vs:List V} {l:List (Key×D)} {r:List (Key×V)},IsL K ι k H ds vs->KVs K ι k H l r->KVs K ι k H (Nm l (ks.zip ds)) (Gi r (ks.zip vs))
 |[],_,_,_,_,_,h=>by rw[List.zip_nil_left,List.zip_nil_left];exact h
 |_::_,[],_,_,_,i,h=>by unfold IsL at i;subst i;rw[List.zip_nil_right,List.zip_nil_right];exact h
 |y::ks,d::ds,_,l,r,i,h=>by
  unfold IsL at i;obtain⟨v,vs',rfl,i1,i2⟩:=i;rw[List.zip_cons_cons,List.zip_cons_cons];exact J4 (l:=JP l y d) (r:=Ds r y v) i2 (KVs.put h i1)
noncomputable def T7:List D->M D
 |[.lst xs,.tup ds]=>λμ=>match PR xs with
  |some ks=>if ds.length=ks.length/\ks.length<=1000 then some (.ref μ.length,μ++[.dK (Nm [] (ks.zip ds))]) else none
  |none=>none
 |_=>BK
section
variable{X:Cx}{a b:Expr}{p p2 pos pos2:Pos}
theorem VL(hmd:X.mg "dict" = none)(hm:X.mg "zip" = none)(ha:RA X [a,b] m)(hc:X.calm=true:=by rfl)(hgd:Gl X "dict" := by rfl)(hg:Gl X "zip" := by rfl)(hs:starEach [a,b] X.env=(false,eval a X.env)::starEach [b] X.env:=by exact As rfl)(hpl:(backTo pos2 (starEach [b] X.env)).any (·.1)=false:=by exact BU rfl):
  RE X (.Call (.Name "dict" p) [.Call (.Name "zip" p2) [a,b] [] pos2] [] pos) (BS T7 m):=RE.wk (Vf hc hgd hmd hg hm ha.pe hs hpl) λσ H Q h=>by
 obtain⟨ι,μ,τ,d,μ',R,S,ev,q⟩:=h;obtain⟨as,μ1,e1,e2⟩:=AL ev;refine⟨ι,μ,τ,as,μ1,R,S,e1,λι1 H1 E1 R1 vs i1=>?_⟩;unfold T7 at e2;split at e2
 ·rename_i xs ds;split at e2
  ·rename_i ks hk;split at e2
   ·rename_i hl;cases e2;obtain⟨v1,v2,rfl,j1,j2⟩:=To i1;unfold Is at j1 j2;obtain⟨l,vl,rfl,g1,_,g2⟩:=j1;obtain⟨t,vt,rfl,t1,t2⟩:=j2;have ek:=MR g2 hk;subst ek;refine⟨l,t,ks,vt,rfl,SqL.of g1,t1,by rw[t2.length];exact hl.1,hl.2,λpn hp=>?_⟩;obtain⟨ι',E2,R2,e0⟩:=R1.grown (m:=.dK (Nm [] (ks.zip ds))) (o:=.dK (Gi [] (ks.zip vt))) hp ⟨_,rfl,J4 t2 (show KVs _ _ _ _ [] [] from rfl)⟩;exact q ι' _ (E1.trans E2) R2 _ (by unfold Is;exact⟨by simp,by rw[e0]⟩)
   ·cases e2
  ·cases e2
 ·cases e2
end
section
variable{K:PySem.W.Frag}{c m qual:Str}{st:Stmt}{C f:Addr}{oc:Value}{od an:Option Addr}{osl:Array (Option Value)}{kV doc pm cdv ct:Value}
theorem aM(a:PySem.W.nsIn K mainGlobals c=some (some (.ref C)))(pg:PySem.W.plainGet K C Str.empty=true)(hd:PySem.W.hasDictIn K C=true)(po:PySem.W.plainOver K C=true)(sa:PySem.W.findIn K (.ref C) "__setattr__" = some (some (.builtin "object.__setattr__")))
  (me:PySem.W.findIn K (.ref C) m=some (some (.ref f))) (fn:PySem.W.isFn K (.ref f)=true)
  (l:K.lookup f=some ⟨oc,od,.func (PySem.W.fnOf m qual (D3 st) (Bv st) (AT st) .none kV doc pm an cdv ct),osl⟩) (cd:PySem.W.codeIn K cdv qual=true) (k:PySem.W.keepIn K (.ref f)=true):∃C f fd,Dm K c m qual st C f fd:=⟨C,f,_,⟨a,⟨pg,hd,po,sa⟩⟩,⟨me,fn,k⟩,N4 l cd k⟩
end
open Pk in
noncomputable def JU(h:Heap)(y:D)(v:Value):Bool:=@decide (At h y v) (Classical.propDecidable _)
open Pk in
theorem PY(a:At h z v):JU h y v=decide (z=y):=by
 unfold JU;by_cases e:z=y
 ·subst e;rw[AAP rfl,@AAP _ (Classical.propDecidable _) a]
 ·rw[AAO e,@AAO _ (Classical.propDecidable _) λb=>e (a.inj b)]
open Pk in
theorem OK:∀{ds:List D} {us:List Value},Ats h ds us->us.any (JU h y)=ds.any λz=>decide (z=y)
 |[],_,a=>by unfold Ats at a;subst a;rfl
 |d::ds,_,a=>by
  unfold Ats at a;obtain⟨v,us',rfl,a1,a2⟩:=a;rw[List.any_cons,List.any_cons,PY a1,OK a2]
open Pk PySem.SeqAt in
theorem Nn(hu:A.units+8<cLine)(hx:At s.heap y x):∀{ds:List D} {us:List Value},deeps ds<=8->Ats s.heap ds us->∀v∈us,EqAt A s v x (JU s.heap y v)
 |[],_,_,a,v,hv=>by unfold Ats at a;subst a;cases hv
 |d::ds,_,hd,a,v,hv=>by
  unfold Ats at a;unfold deeps at hd;obtain⟨v',us',rfl,a1,a2⟩:=a;rcases AAJ.mp hv with rfl|hv
  ·rw[PY a1];exact At.eq (by omega) a1 hx
  ·exact Nn hu hx (by omega) a2 v hv
open Pk in
noncomputable def aC(neg:Bool)(y d:D):M D:=bnd (Co d) λds=>λμ=>if Kz y=true/\KzL ds=true/\deeps ds<=8 then some (.bl (if neg then !(ds.any λz=>decide (z=y)) else ds.any λz=>decide (z=y)),μ) else none
open Pk in
theorem Z4(hr:Room k X.A):OpR X (compareOp .In) (rM X.kw (aC false)):=λpins s σ H x y v u Q I rx ry h=>by
 obtain⟨ι,μ,a,b,d,μ',R,ia,ib,e,q⟩:=h;obtain⟨ds,μ1,e1,e2⟩:=AL e;obtain⟨hm,p,vs,rfl,h1,h2⟩:=CV R ib e1;subst hm;split at e2
 ·rename_i hz;cases e2;cases ry;have hx:=NA I hz.1 ia rx;have hu:X.A.in1.units+8<cLine:=L1 hr;rcases h1 with h1|h1
  ·obtain⟨its,rv,pl,_⟩:=I.list h1;have hA:=LI I hz.2.1 h2 rv;refine PySem.SeqAt.in_listAt (JU s.heap a) pl.isList (λw hw=>Nn (A:=X.A.in1) hu hx hz.2.2 hA w (by simpa using hw)) ⟨.bl _,H,I,rfl,?_⟩;rw[show its.toArray.any (JU s.heap a)=its.any (JU s.heap a) by simp,OK hA];exact q ι H R.ext0 R _ (ofB _)
  ·obtain⟨its,rv,pl,_⟩:=I.tuple h1;have hA:=LI I hz.2.1 h2 rv;refine PySem.SeqAt.in_tupleAt (JU s.heap a) pl (λw hw=>Nn (A:=X.A.in1) hu hx hz.2.2 hA w (by simpa using hw)) ⟨.bl _,H,I,rfl,?_⟩;rw[show its.toArray.any (JU s.heap a)=its.any (JU s.heap a) by simp,OK hA];exact q ι H R.ext0 R _ (ofB _)
 ·cases e2
section
variable{X:Cx}
noncomputable def Iq:List D->M D
 |[d]=>bnd (Bq d) λr=>λμ=>some (.ref μ.length,μ++[.dK r.2])
 |_=>BK
theorem WO:Bh X (.type "dict") (rMA X.kw Iq):=λpins s σ H xs us Q I r h=>by
 obtain⟨ι,μ,as,d,μ',R,ia,e,q⟩:=h;unfold Iq at e;split at e
 ·rename_i y;obtain⟨z,μ1,e1,e2⟩:=AL e;obtain⟨v,rfl,i1⟩:=Gq ia;obtain⟨hm,_,g1,rfl,kvs,g2,g3⟩:=Cg R i1 e1;subst hm;cases e2;obtain⟨u,rfl,ru⟩:=Hi r;cases ru;refine UB I (.inl g2) λp s' hp I'=>⟨.ref p,_,I',rfl,?_⟩;obtain⟨ι',E1,R1,e0⟩:=R.grown (m:=.dK z.2) (o:=.dK kvs) hp ⟨kvs,rfl,g3⟩;exact q ι' _ E1 R1 _ (by unfold Is;exact⟨by simp,by rw[e0]⟩)
 ·cases e
noncomputable def JW(kb:List (Key×D)):List (Key×D)->Option Bool
 |[]=>some true
 |(k,d)::r=>match Hl kb k with
  |none=>some false
  |some d'=>if Kz d=true/\Kz d'=true/\deep d<=8 then (JW kb r).map λb=>decide (d=d')&&b else none
noncomputable def Q2(a b:D):M D:=bnd (Bq a) λx=>bnd (Bq b) λy=>λμ=>if x.2.length=y.2.length then (JW y.2 x.2).map λz=>(.bl z,μ) else some (.bl false,μ)
open Pk in
theorem Ms(hu:X.A.in1.units+8<cLine)(I:Inv X pins σ H s)(kb:KVs X.kw ι k H lb rb)(hb:KV rb vb):
  ∀{l:List (Key×D)} {r:List (Key×V)} {v:List (Key×Value)} {z:Bool},KVs X.kw ι k H l r->KV r v->JW lb l=some z->PySem.W.KeqHits X.A.in1 s vb v z
 |[],_,_,z,h,hv,e=>by
  cases h;cases hv;cases e;exact .nil
 |(y,d)::l,_,_,z,h,hv,e=>by
  obtain⟨v1,r',rfl,h1,h2⟩:=h;unfold KV at hv;cases hv with
  |@cons _ q _ qs hq t=>
   obtain⟨q1,q2⟩:=q;obtain⟨hk,hr⟩:=hq;dsimp only at hk hr;subst hk;unfold JW at e;have rv:=KV.val hb y;rcases kb.val y with ⟨z1,z2⟩|⟨d',v',z1,z2,z3⟩
   ·rw[z1] at e;cases e;rw[z2] at rv;refine .miss ?_;cases hq:valueAt vb y with
    |none=>rfl
    |some _=>rw[hq] at rv;exact(show False from rv).elim
   ·rw[z1] at e;dsimp only at e;rw[z2] at rv;cases hq:valueAt vb y with
    |none=>rw[hq] at rv;exact(show False from rv).elim
    |some u'=>
     rw[hq] at rv;split at e
     ·rename_i hc;cases hd:JW lb l with
      |none=>rw[hd] at e;cases e
      |some b=>
       rw[hd] at e;cases e;exact .hit hq (At.eq (by omega) (NA I hc.1 h1 hr) (NA I hc.2.1 z3 rv)) (Ms hu I kb hb h2 t hd)
     ·cases e
theorem Z6(hr:Room k X.A):OpR X (compareOp .Eq) (rM X.kw Q2):=λpins s σ H x y v u Q I rx ry h=>by
 obtain⟨ι,μ,a,b,d,μ',R,ia,ib,e,q⟩:=h;obtain⟨xa,μ1,e1,e2⟩:=AL e;obtain⟨xb,μ2,e3,e4⟩:=AL e2;obtain⟨hm,_,g1,rfl,kvs,g2,g3⟩:=Cg R ia e1;subst hm;obtain⟨hm,_,f1,rfl,jvs,f2,f3⟩:=Cg R ib e3;subst hm;cases rx;cases ry;obtain⟨_,la,va,ra,da⟩:=T9 I.hok g2;obtain⟨_,lb,vb,rb,db⟩:=T9 I.hok f2;have ha:va.length=xa.2.length:=by rw[←ra.length,g3.length]
 have hb:vb.length=xb.2.length:=by rw[←rb.length,f3.length]
 have hu:X.A.in1.units+8<cLine:=L1 hr;have hu0:X.A.units<cLine:=by have:=hr.units;omega
 by_cases hl:xa.2.length=xb.2.length
 ·rw[if_pos hl] at e4;cases hd:JW xb.2 xa.2 with
  |none=>rw[hd] at e4;cases e4
  |some z=>
   rw[hd] at e4;cases e4;refine PySem.W.keq_eq (r:=z) la lb da db hu0 (λ_=>Ms hu I f3 rb g3 ra hd) ⟨.bl z,H,I,?_,q ι H R.ext0 R _ (ofB _)⟩;rw[ha,hb,hl,beq_self_eq_true,Bool.true_and];rfl
 ·rw[if_neg hl] at e4;cases e4;refine PySem.W.keq_eq (r:=true) la lb da db hu0 (λz=>absurd (by rw[←ha,←hb];exact z) hl) ⟨.bl false,H,I,?_,q ι H R.ext0 R _ (ofB _)⟩;rw[show (va.length==vb.length)=false from AAf.mpr (by rw[ha,hb];exact hl)];rfl
end
noncomputable def Ku:D->D->M D
 | .int i,.int j=>ret (.int (i-j))
 |_,_=>BK
section
variable{X:Cx}{e:Expr}{pos pos':Pos}
theorem U9(i:Nat)(hN:X.N.Nodup)(he:RE X e m)(hi:X.N[i]?=some x:=by rfl)(hx:Loc X.env.scope x:=by first|exact Or.inl rfl|exact Or.inr rfl)(hf:X.fn x=true∨X.env.scope.names.lookup x=some .local:=by first|exact .inl rfl|exact .inr rfl|assumption):
  RS X (.AugAssign (.Name x pos') .Sub e pos) (Bl (mOp Ku (Ag i) m) (Aq i)):=RS.wk (X0 hN hi hx he.pe Ye hf) λDn σ H h=>by
 obtain⟨ι,μ,τ,f,τ',μ',R,S,ev,q⟩:=h;obtain⟨d,μ1,e1,ev⟩:=AL ev;obtain⟨τ1,μ2,e2,ev⟩:=AL ev;cases ev;cases e2;obtain⟨a,μ3,e3,ev⟩:=AL e1;obtain⟨b,μ4,e4,e5⟩:=AL ev;unfold Ag at e3;split at e3
 ·rename_i d' ed;cases e3;obtain⟨v,s1,h1⟩:=S.get i _ ed;refine⟨v,s1,ι,μ,τ,b,μ4,R,S,e4,λι1 H1 E1 R1 v1 i1=>?_⟩;cases a with
  |int k=>
   cases b with
   |int j=>
    cases e5;have z1:=BX h1;have z2:=BX i1;subst z1 z2;exact⟨k,j,rfl,rfl,q ι1 H1 E1 R1 _ ((S.ext E1).set i (ofI _))⟩
   |_=>cases e5
  |_=>cases e5
 ·cases e3
end
mutual
def clB(k:Nat):D->Bool
 | .tup ds=>D4 k ds
 | .lst ds=>D4 k ds
 | .ref n=>Nat.blt n k
 |_=>true
def D4(k:Nat):List D->Bool
 |[]=>true
 |d::ds=>match clB k d with
  |true=>D4 k ds
  |false=>false
end
noncomputable def WK(k:Nat):MO->Bool
 | .lst ds=>D4 k ds
 | .dK l=>D4 k (l.map (·.2))
 | .dC l=>D4 k (l.map (·.2))
 | .ins _ l=>D4 k (l.map (·.2))
 | .dP l=>D4 k (l.map (·.1))&&D4 k (l.map (·.2))
mutual
theorem UL:∀{d:D},clB k d=true->Cl k d
 | .tup ds,h=>by unfold clB at h;unfold Cl;exact CM h
 | .lst ds,h=>by unfold clB at h;unfold Cl;exact CM h
 | .ref n,h=>by unfold clB at h;unfold Cl;exact Nat.blt_eq.mp h
 | .non,_ | .bl _,_ | .int _,_ | .str _,_ | .ty _,_ | .scr _,_=>by unfold Cl;trivial
theorem CM:∀{ds:List D},D4 k ds=true->ClL k ds
 |[],_=>by unfold ClL;trivial
 |d::ds,h=>by
  unfold D4 at h;unfold ClL;cases e:clB k d with
  |true=>rw[e] at h;exact⟨UL e,CM h⟩
  |false=>rw[e] at h;cases h
end
theorem WJ(h:WK k o=true):ClO k o:=by
 cases o with
 |lst ds=>exact CM h
 |dK l=>exact CM h
 |dC l=>exact CM h
 |ins _ l=>exact CM h
 |dP l=>
  have h:(D4 k (l.map (·.1))&&D4 k (l.map (·.2)))=true:=h;rw[Bool.and_eq_true] at h;exact⟨CM h.1,CM h.2⟩
noncomputable def Bj(k:Nat):Nat->Mh->Option Mh
 |0,_=>some []
 |_+1,[]=>none
 |n+1,o::μ=>match WK k o with
  |true=>match Bj k n μ with
   |some r=>some (o::r)
   |none=>none
  |false=>none
theorem Da:∀{n:Nat} {μ r:Mh},Bj k n μ=some r->(∃g,μ=r++g)/\List.length r=n/\∀o∈r,ClO k o
 |0,μ,r,h=>by cases h;exact⟨⟨μ,rfl⟩,rfl,λo ho=>by cases ho⟩
 |_+1,[],r,h=>by cases h
 |n+1,o::μ,r,h=>by
  unfold Bj at h;split at h
  ·rename_i hc;split at h
   ·rename_i r' hr;cases h;obtain⟨⟨g,rfl⟩,h2,h3⟩:=Da hr;refine⟨⟨g,rfl⟩,by rw[AAI,h2],λp hp=>?_⟩;rcases AAJ.mp hp with rfl|hp
    ·exact WJ hc
    ·exact h3 p hp
   ·cases h
  ·cases h
noncomputable def Kx(μ:Mh)(hw:How)(d:D)(μ2:Mh):Option (D×Mh):=match hw with
 | .all=>some (d,μ2)
 | .drop=>match clB (List.length μ) d with
  |true=>match Bj (List.length μ) (List.length μ) μ2 with
   |some r=>some (d,r)
   |none=>none
  |false=>none
 | .frz=>match d with
  | .ref n=>match Nat.ble (List.length μ) n with
   |true=>match μ2[n]? with
    |some (.lst ds)=>match D4 (List.length μ) ds with
     |true=>match Bj (List.length μ) (List.length μ) μ2 with
      |some r=>some (.lst ds,r)
      |none=>none
     |false=>none
    |_=>none
   |false=>none
  |d=>match clB (List.length μ) d with
   |true=>match Bj (List.length μ) (List.length μ) μ2 with
    |some r=>some (d,r)
    |none=>none
   |false=>none
theorem Vl(h:Kx μ hw d' μ2=some (d,μ')):(μ'=μ2/\d=d')∨Pr μ μ2 μ' d' d:=by
 have dr:∀{d' d:D} {μ':Mh},(match clB (List.length μ) d' with|true=>(match Bj (List.length μ) (List.length μ) μ2 with|some r=>some (d',r)|none=>none)|false=>none)=some (d,μ')->Pr μ μ2 μ' d' d:=by
  intro d' d μ' h;split at h
  ·rename_i hc;split at h
   ·rename_i r hr;cases h;obtain⟨g,hl,ho⟩:=Da hr;exact⟨g,by rw[hl];exact AAF _,λn o e=>.inr (by rw[hl];exact ho o (AAV e)),.inl ⟨rfl,by rw[hl];exact UL hc⟩⟩
   ·cases h
  ·cases h
 unfold Kx at h;split at h
 ·cases h;exact .inl ⟨rfl,rfl⟩
 ·exact .inr (dr h)
 ·split at h
  ·split at h
   ·rename_i n hn;split at h
    ·rename_i ds hq;split at h
     ·rename_i hc;split at h
      ·rename_i r hr;cases h;obtain⟨g,hl,ho⟩:=Da hr;exact .inr ⟨g,by rw[hl];exact AAF _,λn o e=>.inr (by rw[hl];exact ho o (AAV e)),.inr ⟨_,ds,rfl,hq,by rw[hl];exact AAE hn,rfl,by rw[hl];exact CM hc⟩⟩
      ·cases h
     ·cases h
    ·cases h
   ·cases h
  ·exact .inr (dr h)
noncomputable def W3:Fl->Bool
 | .next=>true
 | .rt _=>true
 |_=>false
theorem Tp(h:W3 f=true):f=.next∨∃d,f=.rt d:=by
 cases f with
 |next=>exact .inl rfl
 |rt d=>exact .inr ⟨d,rfl⟩
 |_=>cases h
noncomputable def Aj(hw:How)(n ps:Nat)(mb:Sl->M (Fl×Sl)):List D->M D:=λds μ=>match Nat.beq (List.length ds) ps with
 |true=>match mb (CD n ds) μ with
  |some ((fl,_),μ2)=>match W3 fl with
   |true=>Kx μ hw (QM fl) μ2
   |false=>none
  |none=>none
 |false=>none
theorem D5(h:Aj hw n ps mb ds μ=some (d,μ')):
  ds.length=ps/\∃fl τ2 μ2,mb (CD n ds) μ=some ((fl,τ2),μ2)/\(fl=.next∨∃d,fl=.rt d)/\((μ'=μ2/\d=QM fl)∨Pr μ μ2 μ' (QM fl) d):=by
 unfold Aj at h;split at h
 ·rename_i hl;split at h
  ·rename_i fl τ2 μ2 e;split at h
   ·rename_i hf;exact⟨Nat.eq_of_beq_eq_true hl,fl,τ2,μ2,e,Tp hf,Vl h⟩
   ·cases h
  ·cases h
 ·cases h
section
variable{P:Program}{w:World}{K:PySem.W.Frag}{mg:Str->Option Value}{base:Heap}
theorem E7(hw:How)(F:Fun K x qual st f fd)(S:Ae N ps (AT st))
  (body:∀(cdv:Value) (A:Around) (outer:List Env) (s:Shared) (H:Hp) (E:XK),Room k (A.deeper (PyProof.Rows.envOfC qual (AT st) s.heap.objs.size f cdv))->RSs (Iv CX0 P w K mg base N qual (AT st) f cdv A outer s H E).nox (Bv st) mb) :
  FnOk P w K mg base CX0 (k+1) f fd ps (spM ⟨K,w⟩ ps.length (Aj hw N.length ps.length mb)):=by
 refine F.ok S (λvs H Q E h=>h.1) (λcdv A outer s H vs Q E hr h=>⟨_,(body cdv A outer s H E hr).pe,?_⟩);obtain⟨hl,ι,μ,ds,d,μ',R,i,e,q⟩:=h;obtain⟨_,fl,τ2,μ2,e2,hfl,t⟩:=D5 e;refine⟨ι,μ,_,fl,τ2,μ2,R,RelS.start i,e2,λι2 H2 E2 R2 σ2 S2=>?_⟩;have z:Ext ι μ.length H ι2 μ'.length H2/\RelH ⟨K,w⟩ ι2 μ' H2/\∀v,Is ⟨K,w⟩ ι2 μ2.length H2 (QM fl) v->Is ⟨K,w⟩ ι2 μ'.length H2 d v:=by
  rcases t with ⟨rfl,rfl⟩|t
  ·exact⟨E2,R2,λv iv=>iv⟩
  ·exact R6 R E2 R2 t
 obtain⟨E3,R3,c⟩:=z;rcases hfl with rfl|⟨d0,rfl⟩
 ·exact q ι2 H2 E3 R3 _ (c _ (by unfold QM Is;rfl))
 ·exact λv iv=>q ι2 H2 E3 R3 v (c v iv)
theorem Af(hw:How)(F:Fun K x qual st f fd)(S:Ae N ps (AT st))(hm:mg x=some (.ref f))(hb:Binds K fd ps [])
  (body:∀(cdv:Value) (A:Around) (outer:List Env) (s:Shared) (H:Hp) (E:XK),Room k (A.deeper (PyProof.Rows.envOfC qual (AT st) s.heap.objs.size f cdv))->RSs (Iv CX0 P w K mg base N qual (AT st) f cdv A outer s H E).nox (Bv st) mb) :
  Fn P w K mg base x ps (k+1) (Aj hw N.length ps.length mb):=⟨λds μ r h=>(D5 (d:=r.1) (μ':=r.2) h).1,f,fd,E7 hw F S body,hm,F.kp,hb⟩
theorem DY(hw:How)(d:Dm K c m qual st C f fd)(S:Ae N ps (AT st))(hb:Binds K fd ps [])
  (body:∀(cdv:Value) (A:Around) (outer:List Env) (s:Shared) (H:Hp) (E:XK),Room k (A.deeper (PyProof.Rows.envOfC qual (AT st) s.heap.objs.size f cdv))->RSs (Iv CX0 P w K mg base N qual (AT st) f cdv A outer s H E).nox (Bv st) mb) :
  Mth P w K mg base c m ps (k+1) (Aj hw N.length ps.length mb):=⟨λds μ r h=>(D5 (d:=r.1) (μ':=r.2) h).1,C,f,fd,d.ca,d.me,E7 hw d.F S body,hb⟩
theorem Qr(hw:How)(d:Di K c qual st C f fd)(S:Ae N ps (AT st))(hm:mg c=some (.ref C))(hb:Binds K fd ps [])
  (body:∀(cdv:Value) (A:Around) (outer:List Env) (s:Shared) (H:Hp) (E:XK),Room k (A.deeper (PyProof.Rows.envOfC qual (AT st) s.heap.objs.size f cdv))->RSs (Iv CX0 P w K mg base N qual (AT st) f cdv A outer s H E).nox (Bv st) mb) :
  Ini P w K mg base c ps (k+1) (Aj hw N.length ps.length mb):=⟨λds μ r h=>(D5 (d:=r.1) (μ':=r.2) h).1,C,f,fd,d.at_,hm,d.mak,E7 hw d.F S body,hb⟩
end
noncomputable def Ju:Nat->Sl->Option D
 |_,[]=>none
 |0,o::_=>o
 |n+1,_::τ=>Ju n τ
theorem MA:∀(i:Nat) (τ:Sl),Ju i τ=(τ[i]?).bind id
 |i,[]=>by cases i<;>rfl
 |0,o::τ=>rfl
 |i+1,o::τ=>by
  show Ju i τ=_;rw[MA i τ,AAu]
noncomputable def Nq(i:Nat):Sl->M D:=λτ μ=>match Ju i τ with
 |some d=>some (d,μ)
 |none=>none
theorem Qj(i:Nat):Nq i=Ag i:=by
 funext τ μ
 unfold Nq Ag;rw[MA];cases τ[i]? with
 |none=>rfl
 |some o=>cases o<;>rfl
noncomputable def ieq:Int->Int->Bool
 | .ofNat a,.ofNat b=>Nat.beq a b
 | .negSucc a,.negSucc b=>Nat.beq a b
 |_,_=>false
theorem LB:∀i j:Int,ieq i j=(i==j)
 | .ofNat a,.ofNat b=>by
  show Nat.beq a b=_;cases e:Nat.beq a b with
  |true=>rw[Nat.eq_of_beq_eq_true e];simp
  |false=>
   have:=Nat.ne_of_beq_eq_false e;exact(AAf.mpr λz=>this (Int.ofNat.inj z)).symm
 | .negSucc a,.negSucc b=>by
  show Nat.beq a b=_;cases e:Nat.beq a b with
  |true=>rw[Nat.eq_of_beq_eq_true e];simp
  |false=>
   have:=Nat.ne_of_beq_eq_false e;exact(AAf.mpr λz=>this (Int.negSucc.inj z)).symm
 | .ofNat a,.negSucc b=>by show false=_;exact(AAf.mpr (show Int.ofNat a≠Int.negSucc b from λz=>nomatch z)).symm
 | .negSucc a,.ofNat b=>by show false=_;exact(AAf.mpr (show Int.negSucc a≠Int.ofNat b from λz=>nomatch z)).symm
def leq:List Nat->List Nat->Bool
 |[],[]=>true
 |a::as,b::bs=>match Nat.beq a b with
  |true=>leq as bs
  |false=>false
 |_,_=>false
theorem leq_iff:∀{a b:List Nat},leq a b=true↔a=b
 |[],[]=>by simp[leq]
 |[],_::_=>by simp[leq]
 |_::_,[]=>by simp[leq]
 |a::as,b::bs=>by
  show (match Nat.beq a b with|true=>leq as bs|false=>false)=true↔_;cases e:Nat.beq a b with
  |true=>rw[Nat.eq_of_beq_eq_true e];simp[leq_iff (a:=as) (b:=bs)]
  |false=>
   have:=Nat.ne_of_beq_eq_false e;simp[this]
def seq(x y:Str):Bool:=leq x.cps.toList y.cps.toList
theorem Hu(x y:Str):seq x y=(x==y):=by
 cases e:seq x y with
 |true=>
  have h:=leq_iff.mp e;obtain⟨⟨x⟩⟩:=x;obtain⟨⟨y⟩⟩:=y;cases h;simp
 |false=>
  refine(AAf.mpr λz=>?_).symm;subst z;have:seq x x=true:=leq_iff.mpr rfl;rw[e] at this;cases this
noncomputable def eqA(a b:D):Option Bool:=match a with
 | .int i=>match b with
  | .int j=>some (ieq i j)
  | .non=>some false
  |_=>none
 | .str x=>match b with
  | .str y=>match PyData.strOk x with
   |true=>match PyData.strOk y with
    |true=>some (seq x y)
    |false=>none
   |false=>none
  |_=>none
 | .non=>match b with
  | .non=>some true
  | .int _=>some false
  |_=>none
 |_=>none
theorem Km(i:Int):SeqAt.shaped (.int i)=true:=by unfold SeqAt.shaped;rfl
theorem Kl:SeqAt.shaped .none=true:=by unfold SeqAt.shaped;rfl
theorem SK(h:PyData.strOk x=true):SeqAt.shaped (.str x)=true:=by
 show (PyData.strOk x&&true)=true;rw[h];rfl
noncomputable def nb:Bool->Bool->Bool
 |true,r=>!r
 |false,r=>r
theorem Yn(h:eqA a b=some r):Eb neg a b μ=some (.bl (nb neg r),μ):=by
 have go:∀{p q:PyData},Ki μ a=some p->Ki μ b=some q->SeqAt.shaped p=true->SeqAt.shaped q=true->PyData.eqv p q=r->Eb neg a b μ=some (.bl (nb neg r),μ):=by
  intro p q e1 e2 s1 s2 e3;unfold Eb;rw[e1,e2];dsimp only;rw[if_pos ⟨s1,s2⟩,e3];cases neg<;>rfl
 unfold eqA at h;split at h
 ·split at h
  ·cases h;exact go rfl rfl (Km _) (Km _) (LB _ _).symm
  ·cases h;exact go rfl rfl (Km _) Kl rfl
  ·cases h
 ·split at h
  ·split at h
   ·rename_i x y h1;split at h
    ·rename_i h2;cases h;exact go rfl rfl (SK h1) (SK h2) (Hu _ _).symm
    ·cases h
   ·cases h
  ·cases h
 ·split at h
  ·cases h;exact go rfl rfl Kl Kl rfl
  ·cases h;exact go rfl rfl Kl (Km _) rfl
  ·cases h
 ·cases h
noncomputable def Ak(neg:Bool)(a b:D):M D:=λμ=>match eqA a b with
 |some r=>some (.bl (nb neg r),μ)
 |none=>Eb neg a b μ
theorem B1(neg:Bool):Ak neg=Eb neg:=by
 funext a b μ
 unfold Ak;split
 ·rename_i r h;exact(Yn h).symm
 ·rfl
noncomputable def QW:Nat->List D->Option D
 |_,[]=>none
 |0,d::_=>some d
 |n+1,_::ds=>QW n ds
theorem O7:∀(i:Nat) (ds:List D),QW i ds=ds[i]?
 |i,[]=>by cases i<;>rfl
 |0,_::_=>rfl
 |i+1,_::ds=>by
  show QW i ds=_;rw[O7 i ds,AAu]
noncomputable def AN(a b:D):M D:=match a with
 | .tup ds=>match b with
  | .int (.ofNat n)=>match QW n ds with
   |some d=>λμ=>some (d,μ)
   |none=>CJ a b
  |_=>CJ a b
 | .lst ds=>match b with
  | .int (.ofNat n)=>match QW n ds with
   |some d=>λμ=>some (d,μ)
   |none=>CJ a b
  |_=>CJ a b
 |_=>CJ a b
theorem Wy(h:QW n ds=some d):atI ds (Int.ofNat n)=some d:=by
 rw[O7] at h;have hl:=(AAU.mp h).1;unfold atI ixN;rw[if_pos (show (0:Int)<=Int.ofNat n from Int.natCast_nonneg n),if_pos (show Int.ofNat n<(ds.length:Int) from Int.ofNat_lt.mpr hl)];exact h
theorem CI:AN=CJ:=by
 funext a b
 unfold AN;split
 ·split
  ·split
   ·rename_i h
    funext μ
    show _=(atI _ _).map _;rw[Wy h];rfl
   ·rfl
  ·rfl
 ·split
  ·split
   ·rename_i h
    funext μ
    show _=(atI _ _).map _;rw[Wy h];rfl
   ·rfl
  ·rfl
 ·rfl
section
variable{X:Cx}
theorem Az(hr:Room k X.A):OpR X (compareOp .Eq) (rM X.kw (Ak false)):=by rw[B1];exact bo hr
theorem DH(hr:Room k X.A):OpR X (compareOp .NotEq) (rM X.kw (Ak true)):=by rw[B1];exact bj hr
theorem AS:IxR X (rM X.kw AN):=by rw[CI];exact bm
end
noncomputable def slR(i:Nat)(τ:Sl):Option D:=@Nat.rec (λ_=>Sl->Option D) (λτ=>@List.rec (Option D) (λ_=>Option D) none (λo _ _=>o) τ) (λ_ ih τ=>@List.rec (Option D) (λ_=>Option D) none (λ_ r _=>ih r) τ) i τ
theorem SH:∀(i:Nat) (τ:Sl),slR i τ=Ju i τ
 |0,[]=>rfl
 |_+1,[]=>rfl
 |0,_::_=>rfl
 |i+1,_::τ=>SH i τ
noncomputable def AD(i:Nat):Sl->M D:=λτ μ=>@Option.rec D (λ_=>Option (D×Mh)) none (λd=>some (d,μ)) (slR i τ)
theorem Bt(i:Nat):AD i=Ag i:=by
 rw[←Qj]
 funext τ μ
 unfold AD Nq;rw[SH];cases Ju i τ<;>rfl
noncomputable def GO{α β:Type}(m:Option (α×Mh))(f:α->M β):Option (β×Mh):=@Option.rec (α×Mh) (λ_=>Option (β×Mh)) none (λp=>@Prod.rec α Mh (λ_=>Option (β×Mh)) (λa μ=>f a μ) p) m
theorem B4(m:M α)(f:α->M β)(μ:Mh):GO (m μ) f=bnd m f μ:=by
 unfold bnd GO;cases m μ with
 |none=>rfl
 |some p=>rfl
noncomputable def AJ(g:D->D->M D)(ma mb:Sl->M D):Sl->M D:=λτ μ=>GO (ma τ μ) λx μ1=>GO (mb τ μ1) (g x)
theorem Cz(g:D->D->M D)(ma mb:Sl->M D):AJ g ma mb=mOp g ma mb:=by
 funext τ μ
 unfold AJ;rw[B4];unfold mOp;congr 1
 funext x μ1
 exact B4 _ _ _
noncomputable def AF(f:List D->M D)(m:Sl->M (List D)):Sl->M D:=λτ μ=>GO (m τ μ) f
theorem Bu(f:List D->M D)(m:Sl->M (List D)):AF f m=BS f m:=by
 funext τ μ
 exact B4 _ _ _
noncomputable def AB(m:Sl->M D)(r:Sl->M (List D)):Sl->M (List D):=λτ μ=>GO (m τ μ) λx μ1=>GO (r τ μ1) λxs μ2=>some (x::xs,μ2)
theorem By(m:Sl->M D)(r:Sl->M (List D)):AB m r=BM m r:=by
 funext τ μ
 unfold AB;rw[B4];unfold BM;congr 1
 funext x μ1
 exact B4 _ _ _
noncomputable def AQ(m1 m2:Sl->M (Fl×Sl)):Sl->M (Fl×Sl):=λτ μ=>GO (m1 τ μ) λr μ1=>@Prod.rec Fl Sl (λ_=>Option ((Fl×Sl)×Mh)) (λf τ1=>@Fl.rec (λ_=>Option ((Fl×Sl)×Mh)) (m2 τ1 μ1) (some ((.brk,τ1),μ1)) (some ((.cont,τ1),μ1)) (λd=>some ((.rt d,τ1),μ1)) f) r
theorem Bb(m1 m2:Sl->M (Fl×Sl)):AQ m1 m2=BV m1 m2:=by
 funext τ μ
 unfold AQ;rw[B4];unfold BV;congr 1
 funext r μ1
 obtain⟨f,τ1⟩:=r;cases f<;>rfl
noncomputable def Xm(i:Nat)(d:D)(τ:Sl):Sl:=@Nat.rec (λ_=>Sl->Sl) (λτ=>@List.rec (Option D) (λ_=>Sl) [] (λ_ r _=>some d::r) τ) (λ_ ih τ=>@List.rec (Option D) (λ_=>Sl) [] (λo r _=>o::ih r) τ) i τ
theorem Op(d:D):∀(i:Nat) (τ:Sl),Xm i d τ=τ.set i (some d)
 |0,[]=>rfl
 |_+1,[]=>rfl
 |0,_::_=>rfl
 |i+1,o::τ=>by
  show o::Xm i d τ=o::_;rw[Op d i τ]
noncomputable def AZ(m:Sl->M D)(i:Nat):Sl->M (Fl×Sl):=λτ μ=>GO (m τ μ) λd μ1=>some ((.next,Xm i d τ),μ1)
theorem CF(m:Sl->M D)(i:Nat):AZ m i=Bl m (Aq i):=by
 funext τ μ
 unfold AZ;rw[B4];unfold Bl;congr 1
 funext d μ1
 rw[Op];rfl
noncomputable def A2(mc:Sl->M Bool)(m1 m2:Sl->M (Fl×Sl)):Sl->M (Fl×Sl):=λτ μ=>GO (mc τ μ) λx μ1=>@Bool.rec (λ_=>Option ((Fl×Sl)×Mh)) (m2 τ μ1) (m1 τ μ1) x
theorem Cu(mc:Sl->M Bool)(m1 m2:Sl->M (Fl×Sl)):A2 mc m1 m2=sIf mc m1 m2:=by
 funext τ μ
 unfold A2;rw[B4];unfold sIf;congr 1
 funext x μ1
 cases x<;>rfl
noncomputable def Ei(ma mb:Sl->M Bool):Sl->M Bool:=λτ μ=>GO (ma τ μ) λx μ1=>@Bool.rec (λ_=>Option (Bool×Mh)) (some (false,μ1)) (mb τ μ1) x
theorem CK(ma mb:Sl->M Bool):Ei ma mb=K4 ma mb:=by
 funext τ μ
 unfold Ei;rw[B4];unfold K4;congr 1
 funext x μ1
 cases x<;>rfl
noncomputable def K2(ma mb:Sl->M Bool):Sl->M Bool:=λτ μ=>GO (ma τ μ) λx μ1=>@Bool.rec (λ_=>Option (Bool×Mh)) (mb τ μ1) (some (true,μ1)) x
theorem Cy(ma mb:Sl->M Bool):K2 ma mb=mOr ma mb:=by
 funext τ μ
 unfold K2;rw[B4];unfold mOr;congr 1
 funext x μ1
 cases x<;>rfl
noncomputable def AV(m:Sl->M D):Sl->M Bool:=λτ μ=>GO (m τ μ) asB
theorem Bs(m:Sl->M D):AV m=BZ m:=by
 funext τ μ
 exact B4 _ _ _
noncomputable def Ab(m:Sl->M D):Sl->M (Fl×Sl):=λτ μ=>GO (m τ μ) λd μ1=>some ((.rt d,τ),μ1)
theorem CG(m:Sl->M D):Ab m=DL m:=by
 funext τ μ
 exact B4 _ _ _
section
variable{K:KW}{ι2 ι':Nat->Addr}{k k2 k':Nat}{H:Hp}
mutual
theorem Is.re(ag:∀n,n<k->ι' n=ι2 n)(am:∀m,m<k'->∃n,n<k2/\ι' m=ι2 n)(hk:k<=k'):∀{d:D} {v:V},Cl k d->Is K ι2 k2 H d v->Is K ι' k' H d v
 | .non,_,_,h | .bl _,_,_,h | .int _,_,_,h | .str _,_,_,h | .ty _,_,_,h | .scr _,_,_,h=>by unfold Is at h ⊢;exact h
 | .tup ds,_,c,h=>by
  unfold Cl at c;unfold Is at h ⊢;obtain⟨p,vs,e,h1,h2⟩:=h;exact⟨p,vs,e,h1,IsL.re ag am hk c h2⟩
 | .lst ds,_,c,h=>by
  unfold Cl at c;unfold Is at h ⊢;obtain⟨p,vs,e,h1,hn,h2⟩:=h;refine⟨p,vs,e,h1,λm hm z=>?_,IsL.re ag am hk c h2⟩;obtain⟨n,hn2,e2⟩:=am m hm;exact hn n hn2 (e2.symm.trans z)
 | .ref n,_,c,h=>by
  unfold Cl at c;unfold Is at h ⊢;exact⟨AAN c hk,by rw[ag n c];exact h.2⟩
theorem IsL.re(ag:∀n,n<k->ι' n=ι2 n)(am:∀m,m<k'->∃n,n<k2/\ι' m=ι2 n)(hk:k<=k'):∀{ds:List D} {vs:List V},ClL k ds->IsL K ι2 k2 H ds vs->IsL K ι' k' H ds vs
 |[],_,_,h=>by unfold IsL at h ⊢;exact h
 |d::ds,_,c,h=>by
  unfold ClL at c;unfold IsL at h ⊢;obtain⟨v,vs',e,h1,h2⟩:=h;exact⟨v,vs',e,Is.re ag am hk c.1 h1,IsL.re ag am hk c.2 h2⟩
end
variable(ag:∀n,n<k->ι' n=ι2 n)(am:∀m,m<k'->∃n,n<k2/\ι' m=ι2 n)(hk:k<=k')
include ag am hk
theorem KVs.re:∀{l:List (Key×D)} {r:List (Key×V)},ClL k (l.map (·.2))->KVs K ι2 k2 H l r->KVs K ι' k' H l r
 |[],_,_,h=>h
 |(_,_)::_,_,c,h=>by
  rw[AAX] at c;unfold ClL at c;obtain⟨v,r',e,h1,h2⟩:=h;exact⟨v,r',e,Is.re ag am hk c.1 h1,KVs.re c.2 h2⟩
theorem CVs.re:∀{l:List (Nk.Cs×D)} {r:List (Nk.Cs×Addr×V)},ClL k (l.map (·.2))->CVs K ι2 k2 H l r->CVs K ι' k' H l r
 |[],_,_,h=>h
 |(c0,_)::_,_,c,h=>by
  rw[AAX] at c;unfold ClL at c;obtain⟨a,v,r',e,h1,h2,h3⟩:=h;exact⟨a,v,r',e,Is.re ag am hk (XF c0) h1,Is.re ag am hk c.1 h2,CVs.re c.2 h3⟩
theorem FVs.re:∀{l:List (Str×D)} {r:List (Str×V)},ClL k (l.map (·.2))->FVs K ι2 k2 H l r->FVs K ι' k' H l r
 |[],_,_,h=>h
 |(_,_)::_,_,c,h=>by
  rw[AAX] at c;unfold ClL at c;obtain⟨v,r',e,h1,h2⟩:=h;exact⟨v,r',e,Is.re ag am hk c.1 h1,FVs.re c.2 h2⟩
theorem PVs.re:∀{l:List (D×D)} {r:List (D×Addr×V)},ClL k (l.map (·.1))->ClL k (l.map (·.2))->PVs K ι2 k2 H l r->PVs K ι' k' H l r
 |[],_,_,_,h=>h
 |(_,_)::_,_,b,c,h=>by
  rw[AAX] at b c;unfold ClL at b c;obtain⟨a,v,r',e,h1,h2,h3⟩:=h;exact⟨a,v,r',e,⟨h1.1,h1.2.1,Is.re ag am hk b.1 h1.2.2⟩,Is.re ag am hk c.1 h2,PVs.re b.2 c.2 h3⟩
theorem ObjIs.re(c:ClO k o)(h:ObjIs K ι2 k2 H p o u):ObjIs K ι' k' H p o u:=by
 cases o with
 |lst ds=>obtain⟨vs,e,h⟩:=h;exact⟨vs,e,IsL.re ag am hk c h⟩
 |dK l=>obtain⟨r,e,h⟩:=h;exact⟨r,e,KVs.re ag am hk c h⟩
 |dC l=>obtain⟨r,e,h⟩:=h;exact⟨r,e,CVs.re ag am hk c h⟩
 |ins n l=>obtain⟨C,dx,r,e,h0,h1,h⟩:=h;exact⟨C,dx,r,e,h0,h1,FVs.re ag am hk c h⟩
 |dP l=>obtain⟨r,e,h⟩:=h;exact⟨r,e,PVs.re ag am hk c.1 c.2 h⟩
end
theorem UR{K:KW}{ι ι2:Nat->Addr}{μ μ2 r:Mh}(E:Ext ι μ.length H ι2 μ2.length H2)(R2:RelH K ι2 μ2 H2)(hj:μ.length<=j)(hq:μ2[j]?=some (.lst es))(hc:ClL μ.length es)(hr:Bj μ.length μ.length μ2=some r):
  ∃ι',Ext ι μ.length H ι' (r++[MO.lst es]).length H2/\RelH K ι' (r++[MO.lst es]) H2/\ι' μ.length=ι2 j:=by
 obtain⟨⟨g,hg⟩,hl,ho⟩:=Da hr;have hj2:j<μ2.length:=(AAU.mp hq).1;have hlen:(r++[MO.lst es]).length=μ.length+1:=by rw[AAH,hl];rfl
 have ag:∀n,n<μ.length->(λn=>if n=μ.length then ι2 j else ι2 n) n=ι2 n:=λn h=>if_neg (AAe h);have am:∀m,m<μ.length+1->∃n,n<μ2.length/\(λn=>if n=μ.length then ι2 j else ι2 n) m=ι2 n:=λm hm=>by
  by_cases e:m=μ.length
  ·exact⟨j,hj2,if_pos e⟩
  ·exact⟨m,by omega,if_neg e⟩
 refine⟨λn=>if n=μ.length then ι2 j else ι2 n,?_,⟨λa b ha hb e=>?_,λn o e=>?_⟩,if_pos rfl⟩
 ·rw[hlen];refine⟨Nat.le_succ _,λn h=>(ag n h).trans (E.agree n h),λn h1 h2=>?_,E.keep,E.was,E.there⟩;have:n=μ.length:=by omega
  rw[if_pos this];exact E.fresh j hj hj2
 ·rw[hlen] at ha hb;have key:∀m,m<μ.length+1->∃n,n<μ2.length/\(if m=μ.length then ι2 j else ι2 m)=ι2 n/\((m=μ.length/\n=j)∨(m≠μ.length/\n=m)):=λm hm=>by
   by_cases e:m=μ.length
   ·exact⟨j,hj2,if_pos e,.inl ⟨e,rfl⟩⟩
   ·exact⟨m,by omega,if_neg e,.inr ⟨e,rfl⟩⟩
  obtain⟨a',ha',ea,ca⟩:=key a ha;obtain⟨b',hb',eb,cb⟩:=key b hb;have:=R2.inj a' b' ha' hb' (ea.symm.trans (e.trans eb));omega
 ·rw[hlen];by_cases h:n<μ.length
  ·rw[AAT (by rw[hl];exact h)] at e;have e2:μ2[n]?=some o:=by rw[hg,AAT (by rw[hl];exact h)];exact e
   obtain⟨u,q,hu⟩:=R2.obj n o e2;refine⟨u,by rw[if_neg (AAe h)];exact q,?_⟩;rw[if_neg (AAe h)];exact ObjIs.re ag am (Nat.le_succ _) (ho o (AAV e)) hu
  ·have hn:n=μ.length:=by
    have:=(AAU.mp e).1;rw[hlen] at this;omega
   subst hn;have:o=.lst es:=by
    rw[AAS (by rw[hl];exact AAF _),hl,Nat.sub_self] at e;exact(Option.some.inj e).symm
   subst this;obtain⟨u,q,hu⟩:=R2.obj j _ hq;refine⟨u,by rw[if_pos rfl];exact q,?_⟩;rw[if_pos rfl];exact ObjIs.re ag am (Nat.le_succ _) hc hu
noncomputable def KN(n ps:Nat)(mb:Sl->M (Fl×Sl)):List D->M D:=λds μ=>match Nat.beq (List.length ds) ps with
 |true=>match mb (CD n ds) μ with
  |some ((.rt (.ref j),_),μ2)=>match Nat.ble (List.length μ) j with
   |true=>match μ2[j]? with
    |some (.lst es)=>match D4 (List.length μ) es with
     |true=>match Bj (List.length μ) (List.length μ) μ2 with
      |some r=>some (.ref (List.length μ),r++[MO.lst es])
      |none=>none
     |false=>none
    |_=>none
   |false=>none
  |_=>none
 |false=>none
theorem Iz(h:KN n ps mb ds μ=some (d,μ')):
  ds.length=ps/\∃j τ2 μ2 es r,mb (CD n ds) μ=some ((.rt (.ref j),τ2),μ2)/\μ.length<=j/\μ2[j]?=some (.lst es)/\ClL μ.length es/\Bj μ.length μ.length μ2=some r/\d=.ref μ.length/\μ'=r++[MO.lst es]:=by
 unfold KN at h;split at h
 ·rename_i hl;split at h
  ·rename_i j τ2 μ2 e;split at h
   ·rename_i hj;split at h
    ·rename_i es hq;split at h
     ·rename_i hc;split at h
      ·rename_i r hr;cases h;exact⟨Nat.eq_of_beq_eq_true hl,j,τ2,μ2,es,r,e,AAE hj,hq,CM hc,hr,rfl,rfl⟩
      ·cases h
     ·cases h
    ·cases h
   ·cases h
  ·cases h
 ·cases h
theorem Tz(F:Fun K x qual st f fd)(S:Ae N ps (AT st))(hm:mg x=some (.ref f))(hb:Binds K fd ps [])
  (body:∀(cdv:Value) (A:Around) (outer:List Env) (s:Shared) (H:Hp) (E:XK),Room k (A.deeper (PyProof.Rows.envOfC qual (AT st) s.heap.objs.size f cdv))->RSs (Iv CX0 P w K mg base N qual (AT st) f cdv A outer s H E).nox (Bv st) mb) :
  Fn P w K mg base x ps (k+1) (KN N.length ps.length mb):=by
 refine⟨λds μ r h=>(Iz (d:=r.1) (μ':=r.2) h).1,f,fd,?_,hm,F.kp,hb⟩;refine F.ok S (λvs H Q E h=>h.1) (λcdv A outer s H vs Q E hr h=>⟨_,(body cdv A outer s H E hr).pe,?_⟩);obtain⟨hl,ι,μ,ds,d,μ',R,i,e,q⟩:=h;obtain⟨_,j,τ2,μ2,es,r,e2,hj,hq,hc,hr,rfl,rfl⟩:=Iz e;refine⟨ι,μ,_,_,τ2,μ2,R,RelS.start i,e2,λι2 H2 E2 R2 σ2 S2=>?_⟩;obtain⟨ι',E3,R3,e3⟩:=UR E2 R2 hj hq hc hr;intro v iv;unfold Is at iv;refine q ι' H2 E3 R3 v ?_;unfold Is;exact⟨by rw[AAH,(Da hr).2.1];exact Nat.lt_succ_self _,by rw[e3];exact iv.2⟩
end Mi
namespace K24
open PySem L2 Mi
noncomputable def CT:D:=.int (-1)
noncomputable def Ir:D:=.int (-1)
noncomputable def P9:List (Str×List Str):=[("put",["box", "expression"]),("get",["variable", "box"]),("let",["variable", "expression"]),("unless",["expression", "target"]),("jump",["target"]),("tell",["expression"]),("done",[])]
noncomputable def Oc:Str->Option D:=Ld P9
noncomputable def UC:D:=.int (-2)
noncomputable def LH:D:=.int (-2)
noncomputable def DB:D:=.int 9
noncomputable def Cf:D:=.tup [.str "let",.str "jump",.str "unless"]
noncomputable abbrev BO:Nat:=10000
noncomputable def FP  : Sl->M (Fl×Sl):=
  (AQ (AZ (AJ Ea (AF DE (AB (AJ AN (AD 0) (mC (.int 4))) AI)) (mC (.int 1))) 1)
  (AQ (A2 (AV (AJ (Ak false) (AJ AN (AD 0) (mC (.int 0))) (mC (.str "whole")))) (Ab (AF AX (AB (AF AX (AB (AJ AN (AD 0) (mC (.int 2))) (AB (mC CT) (AB (AJ IF (AF AX (AB (mC CT) AI)) (AD 1)) AI)))) AI))) Ax)
  (Ab (AF AX (AB (AJ AN (AD 0) (mC (.int 2))) (AB (mC CT) (AB (AJ IF (AF AX (AB (mC .non) AI)) (AD 1)) AI)))))))
noncomputable def Eg(cT:List D->M D)(cL:List D->M D)(cK:List D->M D):Sl->M (Fl×Sl):=
  (AQ (A2 (AV (AJ (Ak false) (AJ AN (AD 0) (mC (.int 0))) (mC (.str "whole")))) (Ab (AF cL (AB (Cd 1 [2] (Dv (AD 1)) (Aq 0) EG (AF cT (AB (AD 0) (AB (mC (.int 0)) (AB (AD 1) AI)))) Ao) AI))) Ax)
  (AQ (AZ (Cd 1 [0,2] (Dv (AJ AN (AD 1) (mC (.int 2)))) (Aq 0) EG (mIf (AV (AJ (Dr false) (AD 0) (mC .non))) (AD 0) (AF cK (AB (AJ AN (AD 1) (mC (.int 0))) (AB (AJ AN (AD 1) (mC (.int 1))) (AB (AD 0) (AB (AD 2) AI)))))) Ao) 3)
  (Ab (AF AX (AB (AJ AN (AD 1) (mC (.int 0))) (AB (AD 2) (AB (AF C2 (AB (AD 3) AI)) AI)))))))
noncomputable def EC(cS:List D->M D)(cL:List D->M D):Sl->M (Fl×Sl):=
  (AQ (A2 (AV (AJ (Ak false) (AJ AN (AD 0) (mC (.int 0))) (mC (.str "whole")))) (Ab (AF cL (AB (AF cS (AB (AD 1) (AB (mC (.int 0)) (AB (mC CT) AI)))) AI))) Ax)
  (Ab (AF AX (AB (AJ AN (AD 1) (mC (.int 1))) (AB (mC CT) (AB (AJ AN (AD 1) (mC (.int 2))) AI))))))
noncomputable def FO(cT:List D->M D)(cL:List D->M D)(cK:List D->M D)(cA:List D->M D):Sl->M (Fl×Sl):=
  (AQ (A2 (AV (AJ (Ak false) (AJ AN (AD 0) (mC (.int 0))) (mC (.str "whole")))) (Ab (AF cL (AB (Cd 1 [2] (Dv (AD 1)) (Aq 0) EG (AF cT (AB (AD 0) (AB (AJ A0 (AD 1) (mC (.int 1))) (AB (mC CT) AI)))) Ao) AI))) Ax)
  (AQ (AZ (AF AX (AB (AJ AN (AD 1) (mC (.int 0))) AI)) 3)
  (AQ (A2 (AV (AJ (Ak true) (AJ AN (AD 1) (mC (.int 1))) (mC CT))) (AZ (AF cK (AB (AJ AN (AD 0) (mC (.int 0))) (AB (AJ AN (AD 0) (mC (.int 1))) (AB (AD 3) (AB (AJ AN (AD 1) (mC (.int 1))) AI))))) 3) Ax)
  (Ab (AF AX (AB (AJ AN (AD 1) (mC (.int 0))) (AB (AJ AN (AD 1) (mC (.int 1))) (AB (AF cA (AB (AJ AN (AD 1) (mC (.int 2))) (AB (AD 2) (AB (AD 3) AI)))) AI))))))))
noncomputable def F6(cS:List D->M D)(cL:List D->M D)(cA:List D->M D):Sl->M (Fl×Sl):=
  (AQ (A2 (AV (AJ (Ak false) (AJ AN (AD 0) (mC (.int 0))) (mC (.str "whole")))) (AQ (AZ (AF cS (AB (AD 1) (AB (AJ A0 (AD 2) (mC (.int 1))) (AB (AD 3) AI)))) 4)
  (Ab (mIf (Tb (AD 4)) (AF cL (AB (AD 4) AI)) (mC .non)))) Ax)
  (AQ (A2 (AV (AJ (JO true) (AD 3) (AJ AN (AJ AN (AD 1) (mC (.int 2))) (AD 2)))) (Ab (mC .non)) Ax)
  (Ab (AF AX (AB (AJ AN (AD 1) (mC (.int 0))) (AB (AJ AN (AD 1) (mC (.int 1))) (AB (AF cA (AB (AJ AN (AD 1) (mC (.int 2))) (AB (AD 2) (AB (mC .non) AI)))) AI)))))))
noncomputable def MN  : Sl->M (Fl×Sl):=
  (AQ (A2 (AV (AJ (Ak false) (AD 0) (mC (.str "safe")))) (Ab (mUn (O0 D.tup) (AD 1))) Ax)
  (Ab (AF C2 (AB (mUn Lj (AJ A0 (AD 2) (AF AX (AB (AD 3) AI)))) AI))))
noncomputable def F5  : Sl->M (Fl×Sl):=
  (Ab (AJ A0 (AJ A0 (CP (AD 0) BD (Ba (AD 1))) (AF AX (AB (AD 2) AI))) (CP (AD 0) (Ba (AJ A0 (AD 1) (mC (.int 1)))) BD)))
noncomputable def F8(cA:List D->M D):Sl->M (Fl×Sl):=
  (AQ (A2 (AV (AJ (Ak false) (AD 1) (mC (.int 0)))) (Ab (AF AX (AB (AJ AN (AD 0) (mC (.int 0))) (AB (AD 2) (AB (AJ AN (AD 0) (mC (.int 2))) AI))))) Ax)
  (Ab (AF AX (AB (AJ AN (AD 0) (mC (.int 0))) (AB (AJ AN (AD 0) (mC (.int 1))) (AB (AF cA (AB (AJ AN (AD 0) (mC (.int 2))) (AB (AJ Ea (AD 1) (mC (.int 1))) (AB (mC LH) AI)))) AI))))))
noncomputable def F7(cA:List D->M D):Sl->M (Fl×Sl):=
  (AQ (A2 (AV (AJ (Ak false) (AD 1) (mC (.int 0)))) (Ab (mIf (AV (AJ (Ak false) (AJ AN (AD 0) (mC (.int 1))) (mC UC))) (AF AX (AB (AJ AN (AD 0) (mC (.int 0))) (AB (mC CT) (AB (AJ AN (AD 0) (mC (.int 2))) AI)))) (mC .non))) Ax)
  (Ab (mIf (AV (AJ (Ak false) (AJ AN (AJ AN (AD 0) (mC (.int 2))) (AJ Ea (AD 1) (mC (.int 1)))) (AD 2))) (AF AX (AB (AJ AN (AD 0) (mC (.int 0))) (AB (AJ AN (AD 0) (mC (.int 1))) (AB (AF cA (AB (AJ AN (AD 0) (mC (.int 2))) (AB (AJ Ea (AD 1) (mC (.int 1))) (AB (mC CT) AI)))) AI)))) (mC .non))))
noncomputable def FQ(cu:List D->M D):Sl->M (Fl×Sl):=
  (AQ (AZ (Cd 1 [1,2] (Dv (AD 0)) (Aq 0) EG (AF cu (AB (AD 0) (AB (AD 1) (AB (AD 2) AI)))) Ao) 3)
  (Ab (Cd 1 [] (Dv (AD 3)) (Aq 0) (AV (AJ (Dr true) (AD 0) (mC .non))) (AD 0) Ao)))
noncomputable def ML(dA:List D->M D):Sl->M (Fl×Sl):=
  (Ab (AF C2 (AB (AF NV (AB (AF dA (AB (AD 0) AI)) AI)) AI)))
noncomputable def Jx(cZ:List D->M D):Sl->M (Fl×Sl):=
  (AQ (AZ Wm 1)
  (AQ (DM (Dv (AD 0)) (Aq 2) (SQ (AD 1) (AD 2) (mC .non)))
  (AQ (AZ (AF Nu (AB (AD 1) AI)) 3)
  (AQ (Gd BO (Tb (AD 3)) (AQ (AZ (Dw Nd (AD 3)) 2)
  (We 1000 (AF cZ (AB (AD 2) AI)) (CN [4,5]) (A2 (AV (AJ (aU true) (AD 5) (AD 1))) (AQ (SQ (AD 1) (AD 5) (AF AX (AB (AD 4) (AB (AD 2) AI))))
  (A7 (Av Bk (AD 3) (AB (AD 5) AI)))) Ax))))
  (Ab (AD 1))))))
noncomputable def Ef(cA:List D->M D):Sl->M (Fl×Sl):=
  (AQ (AZ (AF FC AI) 1)
  (AQ (A2 (AV (AJ QQ (AJ AN (AD 0) (mC (.int 1))) (mC (.int 0)))) (A7 (Av Bk (AD 1) (AB (AF AX (AB (mC (.int 0)) (AB (AF AX (AB (AJ AN (AD 0) (mC (.int 1))) (AB (mC UC) (AB (AJ AN (AD 0) (mC (.int 2))) AI)))) AI))) AI))) Ax)
  (AQ (DM (IS (AB (AJ AN (AD 0) (mC (.int 2))) AI)) (CN [2,3]) (A2 (AV (AJ (Ak false) (AD 3) (mC LH))) (A7 (Av Bk (AD 1) (AB (AF AX (AB (AJ A0 (AD 2) (mC (.int 1))) (AB (AF AX (AB (AJ AN (AD 0) (mC (.int 0))) (AB (AJ AN (AD 0) (mC (.int 1))) (AB (AF cA (AB (AJ AN (AD 0) (mC (.int 2))) (AB (AD 2) (AB (AJ AN (AD 0) (mC (.int 0))) AI)))) AI)))) AI))) AI))) Ax))
  (Ab (AD 1)))))
noncomputable def IP  : Sl->M (Fl×Sl):=
  (Ab (HI (AF MX (AB (AD 0) (AB (mC (.ty "int")) AI))) (HI (Wr (AF MX (AB (AD 0) (AB (mC (.ty "bool")) AI)))) (K3 Sk Sk (AD 1) (AD 0) (AD 2)))))
noncomputable def Ee(cQ:List D->M D):Sl->M (Fl×Sl):=
  (AQ (A2 (AV (AJ (Ak false) (AJ AN (AD 0) (mC (.int 0))) (mC (.str "num")))) (Ab (AF Ao AI)) Ax)
  (AQ (A2 (AV (AJ (Ak false) (AJ AN (AD 0) (mC (.int 0))) (mC (.str "var")))) (Ab (AF Ao (AB (AJ AN (AD 0) (mC (.int 1))) AI))) Ax)
  (AQ (AZ (AF FC AI) 1)
  (AQ (DM (Dv (CP (AD 0) (Ba (mC (.int 1))) BD)) (Aq 2) (A7 (Av T3 (AD 1) (AB (AF cQ (AB (AD 2) AI)) AI))))
  (Ab (AD 1))))))
noncomputable def m_number_of(cB:List D->M D)(cD:List D->M D)(cM:List D->M D):Sl->M (Fl×Sl):=
  (AQ (AZ (AJ AN (AD 0) (mC (.int 0))) 2)
  (AQ (A2 (AV (AJ (Ak false) (AD 2) (mC (.str "num")))) (Ab (AJ AN (AD 0) (mC (.int 1)))) Ax)
  (AQ (A2 (AV (AJ (Ak false) (AD 2) (mC (.str "var")))) (Ab (AJ Io (AD 1) (AJ AN (AD 0) (mC (.int 1))))) Ax)
  (AQ (AZ (AF cB (AB (AJ AN (AD 0) (mC (.int 1))) (AB (AD 1) AI))) 3)
  (AQ (A2 (AV (AJ (Ak false) (AD 2) (mC (.str "not")))) (Ab (AF cD (AB (AJ (Ak false) (AD 3) (mC (.int 0))) AI))) Ax)
  (Ab (AF cM (AB (AD 2) (AB (AD 3) (AB (AF cB (AB (AJ AN (AD 0) (mC (.int 2))) (AB (AD 1) AI))) AI))))))))))
noncomputable def m_number_of_pair(cD:List D->M D):Sl->M (Fl×Sl):=
  (AQ (A2 (AV (AJ (Ak false) (AD 0) (mC (.str "+")))) (Ab (AF Vw (AB (AJ A0 (AD 1) (AD 2)) (AB (mC DB) AI)))) Ax)
  (AQ (A2 (AV (AJ (Ak false) (AD 0) (mC (.str "-")))) (Ab (AF Qi (AB (AJ Ea (AD 1) (AD 2)) (AB (mC (.int 0)) AI)))) Ax)
  (AQ (A2 (AV (AJ (Ak false) (AD 0) (mC (.str "=")))) (Ab (AF cD (AB (AJ (Ak false) (AD 1) (AD 2)) AI))) Ax)
  (AQ (A2 (AV (AJ (Ak false) (AD 0) (mC (.str "<")))) (Ab (AF cD (AB (AJ Kv (AD 1) (AD 2)) AI))) Ax)
  (AQ (A2 (AV (AJ (Ak false) (AD 0) (mC (.str "and")))) (Ab (AF cD (AB (HI (AJ (Ak true) (AD 1) (mC (.int 0))) (AJ (Ak true) (AD 2) (mC (.int 0)))) AI))) Ax)
  (Ab (AF cD (AB (Tc (AJ (Ak true) (AD 1) (mC (.int 0))) (AJ (Ak true) (AD 2) (mC (.int 0)))) AI))))))))
noncomputable def m_one_where  : Sl->M (Fl×Sl):=
  (Ab (mIf (AV (AD 0)) (mC (.int 1)) (mC (.int 0))))
noncomputable def IQ  : Sl->M (Fl×Sl):=
  (Ab (HI (AF MX (AB (AD 0) (AB (mC (.ty "tuple")) AI))) (K3 Sk Sk (AD 1) (AF DE (AB (AD 0) AI)) (AD 2))))
noncomputable def Ed(cQ:List D->M D):Sl->M (Fl×Sl):=
  (AQ (AZ (AF FC AI) 1)
  (AQ (DM (Z9 (AB (mUn (Wx Oc) (AJ AN (AD 0) (mC (.int 0)))) (AB (CP (AD 0) (Ba (mC (.int 1))) BD) AI))) (CN [2,3]) (AQ (A2 (AV (AJ (Ak false) (AD 2) (mC (.str "variable")))) (A7 (Av Bk (AD 1) (AB (AD 3) AI))) Ax)
  (A2 (AV (AJ (Ak false) (AD 2) (mC (.str "expression")))) (A7 (Av T3 (AD 1) (AB (AF cQ (AB (AD 3) AI)) AI))) Ax)))
  (Ab (AD 1))))
noncomputable def Eh(cg:List D->M D)(cY:List D->M D)(cn:List D->M D)(cv:List D->M D):Sl->M (Fl×Sl):=
  (AQ (AZ (AJ (Ak false) (AJ AN (AD 2) (mC (.int 0))) (mC (.str "begin"))) 3)
  (AQ (A2 (AV (AJ (Ak false) (AJ AN (AD 2) (mC (.int 1))) (mC (.int 0)))) (Ab (mIf (AV (AD 3)) (AF cg (AB (AD 0) (AB (AD 1) (AB (AJ AN (AD 2) (mC (.int 2))) AI)))) (AF cY (AB (AD 0) (AB (AD 1) AI))))) Ax)
  (AQ (AZ (AJ Ea (AJ AN (AD 2) (mC (.int 1))) (mC (.int 1))) 4)
  (Ab (mIf (AV (AD 3)) (AF cn (AB (AD 0) (AB (AD 1) (AB (AD 4) AI)))) (AF cv (AB (AD 0) (AB (AD 1) (AB (AD 4) (AB (AJ AN (AD 2) (mC (.int 2))) AI))))))))))
noncomputable def EF(cW:List D->M D):Sl->M (Fl×Sl):=
  (AQ (IB "Plan" "making" (AD 0) (AD 1))
  (AQ (IB "Plan" "names" (AD 0) (Cd 1 [] (Dv (AJ AN (AD 1) (mC (.int 4)))) (Aq 0) EG (AJ AN (AD 0) (mC (.int 0))) Ao))
  (AQ (IB "Plan" "variables" (AD 0) (Cd 1 [] (Dv (AJ AN (AD 1) (mC (.int 4)))) (Aq 0) EG (AF cW (AB (AJ AN (AD 0) (mC (.int 2))) AI)) Ao))
  (AQ (IB "Plan" "places" (AD 0) Z7)
  (AQ (DM (IS (AB (AJ AN (AD 1) (mC (.int 3))) AI)) (CN [2,3]) (IC (mUn (CC "Plan" "places") (AD 0)) (AJ AN (AD 3) (mC (.int 0))) (AD 2)))
  (AQ (IB "Plan" "ways" (AD 0) TY)
  (IB "Plan" "claims" (AD 0) TY)))))))
noncomputable def FS  : Sl->M (Fl×Sl):=
  (Ab (AJ AN (AJ AN (AJ AN (AJ AN (mUn (CC "Plan" "making") (AD 0)) (mC (.int 4))) (AD 1)) (mC (.int 2))) (AD 2)))
noncomputable def ED  : Sl->M (Fl×Sl):=
  (Ab (AJ Io (mUn (CC "Plan" "places") (AD 0)) (mIf (AV (AJ (Ak false) (AJ AN (AD 1) (mC (.int 0))) (mC (.str "put")))) (AJ AN (AD 1) (mC (.int 1))) (AJ AN (AD 1) (mC (.int 2))))))
noncomputable def Cc  : Sl->M (Fl×Sl):=
  (AQ (AZ (AF T7 (AB (AJ AN (mUn (CC "Plan" "variables") (AD 0)) (AD 1)) (AB (AD 3) AI))) 4)
  (AQ (A2 (AV (AJ (Ak false) (AD 1) (mC (.int 0)))) (IC (AD 4) (mC (.str "v")) (AD 2)) Ax)
  (Ab (AD 4))))
noncomputable def FR(cw:List D->M D):Sl->M (Fl×Sl):=
  (AQ (AZ (AF AX (AB (AD 1) (AB (AD 2) (AB (AD 3) (AB (AD 4) AI))))) 5)
  (AQ (A2 (AV (AJ (X2 true) (AD 5) (mUn (CC "Plan" "ways") (AD 0)))) (SN (mUn (CC "Plan" "ways") (AD 0)) (AD 5) (AF cw (AB (AD 0) (AB (AD 1) (AB (AD 2) (AB (AD 3) (AB (AD 4) AI))))))) Ax)
  (Ab (AJ S7 (mUn (CC "Plan" "ways") (AD 0)) (AD 5)))))
noncomputable def EE(cf:List D->M D):Sl->M (Fl×Sl):=
  (AQ (AZ (AF AX (AB (AD 1) (AB (AD 2) (AB (AD 3) (AB (AD 4) AI))))) 5)
  (AQ (A2 (AV (AJ (X2 true) (AD 5) (mUn (CC "Plan" "claims") (AD 0)))) (SN (mUn (CC "Plan" "claims") (AD 0)) (AD 5) (AF cf (AB (mUn (CC "Plan" "making") (AD 0)) (AB (AD 1) (AB (AF AX (AB (AD 2) (AB (AD 3) (AB (AD 4) AI)))) AI))))) Ax)
  (Ab (AJ S7 (mUn (CC "Plan" "claims") (AD 0)) (AD 5)))))
noncomputable def Cr(ce:List D->M D):Sl->M (Fl×Sl):=
  (AQ (AZ (AF FC AI) 1)
  (AQ (DM (Dv (AD 0)) (Aq 2) (A7 (Av T3 (AD 1) (AB (AF ce (AB (AD 2) AI)) AI))))
  (Ab (Cd 1 [] (Dv (mUn Jh (AD 1))) (Aq 0) (AV (AJ (Ak true) (AD 0) (mC (.str "v")))) (AD 0) Ao))))
noncomputable def HG(cH:List D->M D)(cz:List D->M D)(cB:List D->M D):Sl->M (Fl×Sl):=
  (AQ (AZ (AJ AN (AJ AN (AJ AN (mUn (CC "Plan" "making") (AD 0)) (mC (.int 4))) (AD 1)) (mC (.int 2))) 5)
  (AQ (AZ (CS "Plan" "named_numbers" cH (AD 0) (AB (AD 1) (AB (AD 3) (AB (AD 4) AI)))) 6)
  (AQ (AZ (AF cz (AB (AD 5) (AB (AD 2) (AB (AD 6) AI)))) 2)
  (AQ (A2 (AV (AJ (Dr false) (AD 2) (mC .non))) (Ab (AF AX (AB (mC (.str "stuck")) (AB (mC .non) (AB (mC .non) (AB (mC .non) AI)))))) Ax)
  (AQ (AZ (AF C2 (AB (Cd 1 [6] (Dv (AJ AN (mUn (CC "Plan" "variables") (AD 0)) (AD 1))) (Aq 0) EG (AJ Io (AD 1) (AD 0)) Ao) AI)) 7)
  (AQ (A2 (AV (AJ (Ak false) (AD 2) (AF DE (AB (AD 5) AI)))) (Ab (AF AX (AB (mIf (AV (AJ (Ak false) (AD 1) (mC (.int 0)))) (mC (.str "ends")) (mC (.str "silent"))) (AB (mC .non) (AB (AD 7) (AB (mC .non) AI)))))) Ax)
  (AQ (AZ (AJ AN (AD 5) (AD 2)) 8)
  (AQ (A2 (AV (AJ (JO false) (AJ AN (AD 8) (mC (.int 0))) (AF AX (AB (mC (.str "put")) (AB (mC (.str "get")) AI))))) (Ab (AF AX (AB (mC (.str "stands")) (AB (AD 2) (AB (AD 7) (AB (mC .non) AI)))))) Ax)
  (AQ (A2 (AV (AJ (Ak false) (AJ AN (AD 8) (mC (.int 0))) (mC (.str "done")))) (Ab (AF AX (AB (mC (.str "ends")) (AB (mC .non) (AB (AD 7) (AB (mC .non) AI)))))) Ax)
  (AQ (AZ (AF cB (AB (AJ AN (AD 8) (mC (.int 1))) (AB (AD 6) AI))) 9)
  (Ab (AF AX (AB (mIf (AV (AJ Kv (AD 9) (AJ AN (mUn (CC "Plan" "making") (AD 0)) (mC (.int 1))))) (mC (.str "ends")) (mC (.str "great"))) (AB (mC .non) (AB (AD 7) (AB (AD 9) AI))))))))))))))))
noncomputable def m_followed(cU:List D->M D):Sl->M (Fl×Sl):=
  (AQ (AZ (mC .non) 3)
  (AQ (AZ (mC .non) 4)
  (AQ (AZ (mC (.int 1)) 5)
  (AQ (AZ (mC (.int 1)) 6)
  (AQ (Gd BO (Ei (AV (AJ Kv (AD 1) (AF DE (AB (AD 0) AI)))) (AV (AJ (JO false) (AJ AN (AJ AN (AD 0) (AD 1)) (mC (.int 0))) (mC Cf)))) (AQ (A2 (Ei (AV (AJ (Ak false) (AD 1) (AD 3))) (AV (AJ Q2 (AD 2) (AD 4)))) (Ab (mC .non)) Ax)
  (AQ (AZ (AJ Ku (AD 6) (mC (.int 1))) 6)
  (AQ (A2 (AV (AJ (Ak false) (AD 6) (mC (.int 0)))) (AQ (AZ (AD 1) 3)
  (AQ (AZ (AF Iq (AB (AD 2) AI)) 4)
  (AQ (AZ (AJ C4 (mC (.int 2)) (AD 5)) 5)
  (AZ (AD 5) 6)))) Ax)
  (AZ (AF cU (AB (AJ AN (AD 0) (AD 1)) (AB (AD 1) (AB (AD 2) AI)))) 1)))))
  (Ab (AD 1)))))))
noncomputable def m_row_behind(cB:List D->M D):Sl->M (Fl×Sl):=
  (AQ (A2 (AV (AJ (Ak false) (AJ AN (AD 0) (mC (.int 0))) (mC (.str "jump")))) (Ab (AJ AN (AD 0) (mC (.int 1)))) Ax)
  (AQ (A2 (Ei (AV (AJ (Ak false) (AJ AN (AD 0) (mC (.int 0))) (mC (.str "unless")))) (AV (AJ (Ak false) (AF cB (AB (AJ AN (AD 0) (mC (.int 1))) (AB (AD 2) AI))) (mC (.int 0))))) (Ab (AJ AN (AD 0) (mC (.int 2)))) Ax)
  (AQ (A2 (AV (AJ (Ak false) (AJ AN (AD 0) (mC (.int 0))) (mC (.str "let")))) (IC (AD 2) (AJ AN (AD 0) (mC (.int 1))) (AF cB (AB (AJ AN (AD 0) (mC (.int 2))) (AB (AD 2) AI)))) Ax)
  (Ab (AJ A0 (AD 1) (mC (.int 1)))))))
noncomputable def FN(cO:List D->M D)(ci:List D->M D):Sl->M (Fl×Sl):=
  (Ab (AF ci (AB (AF (PK "Plan" cO) (AB (AD 0) AI)) AI)))
noncomputable def Jw(cO:List D->M D)(dE:List D->M D)(dG:List D->M D):Sl->M (Fl×Sl):=
  (AQ (AZ (AF (PK "Plan" cO) (AB (AD 0) AI)) 3)
  (AQ (AZ (AF dE (AB (AD 3) (AB (AD 1) (AB (AD 2) AI)))) 4)
  (AQ (A2 (AV (AJ (Dr false) (AD 4) (mC .non))) SO Ax)
  (Ab (AF dG (AB (AD 3) (AB (AD 1) (AB (AD 4) AI))))))))
noncomputable def FM(cj:List D->M D):Sl->M (Fl×Sl):=
  (AQ (AZ (Cd 1 [] (Dv (mUn (CC "Plan" "variables") (AD 0))) (Aq 0) EG (AF AX (AB (mC Ir) (AB (mC .non) (AB (mC (.int 0)) (AB (mC (.int 0)) (AB (AJ IF (AF AX (AB (mC (.int 0)) AI)) (AF DE (AB (AD 0) AI))) AI)))))) Ao) 1)
  (AQ (AZ (Cd 1 [] (Dv (AJ AN (mUn (CC "Plan" "making") (AD 0)) (mC (.int 3)))) (Aq 0) EG (AF AX (AB (AJ AN (AD 0) (mC (.int 3))) (AB (mC CT) AI))) Ao) 2)
  (Ab (AF AX (AB (AF C2 (AB (AD 1) AI)) (AB (AF C2 (AB (AD 2) AI)) (AB (AF cj (AB (mUn (CC "Plan" "making") (AD 0)) AI)) AI)))))))
noncomputable def IN(cx:List D->M D):Sl->M (Fl×Sl):=
  (AQ (AZ (AF FC AI) 2)
  (AQ (DM (IS (AB (AJ AN (AD 1) (mC (.int 0))) AI)) (CN [3,4]) (DM (Dv (AF cx (AB (AD 0) (AB (AD 3) (AB (AD 4) AI))))) (Aq 5) (A7 (Av Bk (AD 2) (AB (AF AX (AB (AD 3) (AB (AD 5) AI))) AI)))))
  (Ab (AD 2))))
noncomputable def IM(cI:List D->M D):Sl->M (Fl×Sl):=
  (AQ (A2 (AV (AJ (Ak false) (AJ AN (AD 2) (mC (.int 0))) (mC Ir))) (Ab (mIf (AV (AJ (Ak false) (AD 1) (mC (.int 0)))) (mUn (O0 D.tup) (AJ AN (mUn (CC "Plan" "making") (AD 0)) (mC (.int 1)))) (AF AX (AB (mC (.int 0)) AI)))) Ax)
  (AQ (A2 (Ei (AV (AJ (Dr true) (AJ AN (AD 2) (mC (.int 1))) (mC .non))) (AV (AJ (Ak false) (AJ AN (CS "Plan" "row_at" cI (AD 0) (AB (AD 1) (AB (AJ AN (AD 2) (mC (.int 0))) AI))) (mC (.int 0))) (mC (.str "get"))))) (Ab (AJ AN (AD 2) (mC (.int 1)))) Ax)
  (Ab (AF AX (AB (mC (.int 0)) AI)))))
noncomputable def Jy(c8:List D->M D)(cy:List D->M D)(c7:List D->M D):Sl->M (Fl×Sl):=
  (AQ (A2 (K2 (YU (AV (AF c8 (AB (AD 2) (AB (mC (.int 2)) (AB (mC (.int 2)) AI)))))) (K2 (AV (AJ (JO true) (AJ AN (AD 2) (mC (.int 0))) (mUn (CC "Plan" "names") (AD 0)))) (YU (AV (AF cy (AB (AJ AN (AD 2) (mC (.int 1))) (AB (mC (.int 0)) (AB (mC DB) AI)))))))) (Ab (mC .non)) Ax)
  (AQ (AZ (AF AX (AB (Av Tq (mUn (CC "Plan" "names") (AD 0)) (AB (AJ AN (AD 2) (mC (.int 0))) AI)) (AB (AJ AN (AD 2) (mC (.int 1))) AI))) 3)
  (Ab (mIf (AV (AJ (aC false) (AD 3) (AF c7 (AB (AD 0) (AB (AD 1) AI))))) (AD 3) (mC .non)))))
noncomputable def PM(dF:List D->M D)(cP:List D->M D)(cI:List D->M D)(dJ:List D->M D)(dL:List D->M D)(cE:List D->M D)(cV:List D->M D):Sl->M (Fl×Sl):=
  (AQ (AZ (AJ AN (AD 2) (mC (.int 0))) 3)
  (AQ (AZ (AJ AN (AJ AN (AD 1) (mC (.int 0))) (AD 3)) 4)
  (AQ (A2 (AV (AJ (Ak false) (AJ AN (AD 4) (mC (.int 0))) (mC Ir))) (Ab (AF dF (AB (AD 0) (AB (AD 1) (AB (AD 2) AI))))) Ax)
  (AQ (A2 (AV (AJ QQ (AJ AN (AD 4) (mC (.int 3))) (AJ AN (AJ AN (AJ AN (mUn (CC "Plan" "making") (AD 0)) (mC (.int 4))) (AD 3)) (mC (.int 1))))) (Ab (AF cP (AB (mC (.str "long")) (AB (AD 0) (AB (AD 3) (AB (AF Ao AI) AI)))))) Ax)
  (AQ (AZ (CS "Plan" "row_at" cI (AD 0) (AB (AD 3) (AB (AJ AN (AD 4) (mC (.int 0))) AI))) 5)
  (AQ (A2 (AV (AJ (Ak false) (AJ AN (AD 5) (mC (.int 0))) (mC (.str "get")))) (Ab (AF dJ (AB (AD 0) (AB (AD 1) (AB (AD 2) (AB (AD 5) AI)))))) Ax)
  (AQ (A2 (AV (AJ (Dr false) (AJ AN (AD 4) (mC (.int 1))) (mC .non))) (Ab (AF dL (AB (AD 0) (AB (AD 1) (AB (AD 3) (AB (AD 5) AI)))))) Ax)
  (AQ (AZ (CS "Plan" "place_of" cE (AD 0) (AB (AD 5) AI)) 6)
  (Ab (AF cV (AB (AD 0) (AB (AD 1) (AB (AD 3) (AB (AD 6) (AB (AJ AN (AJ AN (AJ AN (AD 1) (mC (.int 1))) (AD 6)) (mC (.int 1))) AI)))))))))))))))
noncomputable def MM  : Sl->M (Fl×Sl):=
  (Ab (AF AX (AB (mC .non) (AB (AF AX (AB (AD 0) (AB (AJ AN (mUn (CC "Plan" "names") (AD 1)) (AD 2)) AI))) (AB (AD 3) AI)))))
noncomputable def PN(cN:List D->M D)(cR:List D->M D):Sl->M (Fl×Sl):=
  (AQ (AZ (AJ AN (AD 2) (mC (.int 0))) 3)
  (AQ (AZ (AJ AN (AD 2) (mC (.int 1))) 4)
  (AQ (AZ (mIf (AV (AJ (Ak false) (AD 3) (mC (.int 0)))) (AF AX (AB (mC (.str "begin")) (AB (AJ AN (mUn (CC "Plan" "names") (AD 0)) (AD 3)) (AB (AD 4) AI)))) (AF AX (AB (mC (.str "begin")) (AB (AJ AN (mUn (CC "Plan" "names") (AD 0)) (AD 3)) AI)))) 5)
  (AQ (AZ (CS "Plan" "claim_on" cN (AD 0) (AB (AJ AN (AD 1) (mC (.int 2))) (AB (mC (.str "begin")) (AB (AD 3) (AB (AD 4) AI))))) 6)
  (Ab (AF cR (AB (AD 0) (AB (AF AX (AB (AJ AN (AD 1) (mC (.int 0))) (AB (AJ AN (AD 1) (mC (.int 1))) (AB (AD 6) AI)))) (AB (AD 3) (AB (AF AX (AB (mC (.int 0)) (AB (AD 4) (AB (mC (.int 0)) (AB (AJ AN (AJ AN (AJ AN (AD 1) (mC (.int 0))) (AD 3)) (mC (.int 4))) AI))))) (AB (AF Ao (AB (AD 5) AI)) AI)))))))))))
noncomputable def Wq(cE:List D->M D)(cK:List D->M D)(cX:List D->M D)(cJ:List D->M D)(cA:List D->M D)(cR:List D->M D):Sl->M (Fl×Sl):=
  (AQ (AZ (AJ AN (AD 2) (mC (.int 0))) 4)
  (AQ (AZ (AJ AN (AJ AN (AD 1) (mC (.int 0))) (AD 4)) 5)
  (AQ (AZ (CS "Plan" "place_of" cE (AD 0) (AB (AD 3) AI)) 6)
  (AQ (AZ (AJ AN (AJ AN (mUn (CC "Plan" "making") (AD 0)) (mC (.int 3))) (AD 6)) 7)
  (AQ (AZ (AJ AN (AJ AN (AD 1) (mC (.int 1))) (AD 6)) 8)
  (AQ (A2 (Ei (AV (AJ (Ak true) (AJ AN (AD 7) (mC (.int 1))) (mC (.str "whole")))) (AV (AJ (Dr false) (AJ AN (AD 5) (mC (.int 1))) (mC .non)))) (AQ (AZ (mIf (AV (AJ (Ak false) (AJ AN (AD 8) (mC (.int 1))) (mC CT))) (AF AX (AB (AJ AN (AD 8) (mC (.int 0))) AI)) (AF cK (AB (AJ AN (AD 7) (mC (.int 1))) (AB (AJ AN (AD 7) (mC (.int 2))) (AB (CP (AD 8) BD (Ba (mC (.int 1)))) (AB (AJ AN (AD 8) (mC (.int 1))) AI)))))) 9)
  (Ab (AF AX (AB (AF cJ (AB (AD 1) (AB (AD 4) (AB (AF cX (AB (AD 5) (AB (AD 9) AI))) AI)))) (AB (mC .non) (AB (AF Ao AI) AI)))))) Ax)
  (AQ (AZ (mIf (AV (AJ (Ak false) (AJ AN (AD 7) (mC (.int 1))) (mC (.str "whole")))) (AJ AN (AD 8) (mC (.int 0))) (AJ AN (AD 2) (mC (.int 1)))) 10)
  (AQ (AZ (AF cA (AB (AJ AN (AD 5) (mC (.int 4))) (AB (Av Tq (AJ AN (mUn (CC "Plan" "variables") (AD 0)) (AD 4)) (AB (AJ AN (AD 3) (mC (.int 1))) AI)) (AB (AD 10) AI)))) 11)
  (Ab (AF cR (AB (AD 0) (AB (AD 1) (AB (AD 4) (AB (AF AX (AB (AJ A0 (AJ AN (AD 5) (mC (.int 0))) (mC (.int 1))) (AB (AJ AN (AD 5) (mC (.int 2))) (AB (AJ A0 (AJ AN (AD 5) (mC (.int 3))) (mC (.int 1))) (AB (AD 11) AI))))) (AB (AF Ao AI) AI)))))))))))))))
noncomputable def Wo(cE:List D->M D)(cH:List D->M D)(cB:List D->M D)(cP:List D->M D)(cV:List D->M D)(cq:List D->M D)(cA:List D->M D)(cX:List D->M D)(cJ:List D->M D):Sl->M (Fl×Sl):=
  (AQ (AZ (AJ AN (AJ AN (AD 1) (mC (.int 0))) (AD 2)) 4)
  (AQ (AZ (CS "Plan" "place_of" cE (AD 0) (AB (AD 3) AI)) 5)
  (AQ (AZ (AJ AN (AJ AN (mUn (CC "Plan" "making") (AD 0)) (mC (.int 3))) (AD 5)) 6)
  (AQ (AZ (AF cB (AB (AJ AN (AD 3) (mC (.int 2))) (AB (CS "Plan" "named_numbers" cH (AD 0) (AB (AD 2) (AB (AJ AN (AD 4) (mC (.int 2))) (AB (AJ AN (AD 4) (mC (.int 4))) AI)))) AI))) 7)
  (AQ (A2 (AV (AJ QQ (AD 7) (AJ AN (AD 6) (mC (.int 2))))) (Ab (AF cP (AB (mC (.str "great")) (AB (AD 0) (AB (AD 2) (AB (AF Ao AI) AI)))))) Ax)
  (AQ (A2 (AV (AJ (Ak false) (AJ AN (AD 6) (mC (.int 1))) (mC (.str "whole")))) (Ab (AF cV (AB (AD 0) (AB (AD 1) (AB (AD 2) (AB (AD 5) (AB (AD 7) AI))))))) Ax)
  (AQ (AZ (Cd 2 [5,0,7] (IS (AB (AJ AN (AD 1) (mC (.int 0))) AI)) (CN [0,1]) EG (AF cq (AB (AD 3) (AB (AD 0) (AB (AD 1) (AB (AD 2) (AB (AD 4) AI)))))) Ao) 8)
  (AQ (AZ (AF cA (AB (AJ AN (AD 1) (mC (.int 1))) (AB (AD 5) (AB (AF AX (AB (AJ AN (AJ AN (AJ AN (AD 1) (mC (.int 1))) (AD 5)) (mC (.int 0))) (AB (AD 7) AI))) AI)))) 9)
  (Ab (AF AX (AB (AF cJ (AB (AF AX (AB (AF C2 (AB (AD 8) AI)) (AB (AD 9) (AB (AJ AN (AD 1) (mC (.int 2))) AI)))) (AB (AD 2) (AB (AF cX (AB (AD 4) (AB (AF AX AI) AI))) AI)))) (AB (mC .non) (AB (AF Ao AI) AI)))))))))))))
noncomputable def HH(cA:List D->M D)(cR:List D->M D):Sl->M (Fl×Sl):=
  (AQ (AZ (AJ AN (AJ AN (AD 1) (mC (.int 0))) (AD 2)) 5)
  (AQ (AZ (AF AX (AB (AJ AN (AD 1) (mC (.int 0))) (AB (AF cA (AB (AJ AN (AD 1) (mC (.int 1))) (AB (AD 3) (AB (AF AX (AB (AD 4) (AB (mC CT) AI))) AI)))) (AB (AJ AN (AD 1) (mC (.int 2))) AI)))) 6)
  (Ab (AF cR (AB (AD 0) (AB (AD 6) (AB (AD 2) (AB (AF AX (AB (AJ A0 (AJ AN (AD 5) (mC (.int 0))) (mC (.int 1))) (AB (AJ AN (AD 5) (mC (.int 2))) (AB (AJ A0 (AJ AN (AD 5) (mC (.int 3))) (mC (.int 1))) (AB (AJ AN (AD 5) (mC (.int 4))) AI))))) (AB (AF Ao AI) AI)))))))))
noncomputable def J2  : Sl->M (Fl×Sl):=
  (Ab (AF AX (AB (AJ AN (AD 0) (mC (.int 0))) (AB (AD 1) (AB (AJ AN (AD 0) (mC (.int 2))) (AB (AJ A0 (AJ AN (AD 0) (mC (.int 3))) (mC (.int 1))) (AB (AJ AN (AD 0) (mC (.int 4))) AI)))))))
noncomputable def F9(cI:List D->M D)(cE:List D->M D)(cK:List D->M D)(cA:List D->M D):Sl->M (Fl×Sl):=
  (AQ (A2 (AV (AJ (Dr false) (AJ AN (AD 2) (mC (.int 1))) (mC .non))) (Ab (AD 2)) Ax)
  (AQ (AZ (CS "Plan" "row_at" cI (AD 0) (AB (AD 1) (AB (AJ AN (AD 2) (mC (.int 0))) AI))) 5)
  (AQ (A2 (K2 (AV (AJ (Ak true) (AJ AN (AD 5) (mC (.int 0))) (mC (.str "get")))) (AV (AJ (Ak true) (CS "Plan" "place_of" cE (AD 0) (AB (AD 5) AI)) (AD 3)))) (Ab (AD 2)) Ax)
  (AQ (AZ (AJ AN (AJ AN (mUn (CC "Plan" "making") (AD 0)) (mC (.int 3))) (AD 3)) 6)
  (Ab (AF cA (AB (AD 2) (AB (mC (.int 1)) (AB (AF cK (AB (AJ AN (AD 6) (mC (.int 1))) (AB (AJ AN (AD 6) (mC (.int 2))) (AB (AJ AN (AD 2) (mC (.int 1))) (AB (AD 4) AI))))) AI)))))))))
noncomputable def HF(cA:List D->M D):Sl->M (Fl×Sl):=
  (Ab (AF AX (AB (AF cA (AB (AJ AN (AD 0) (mC (.int 0))) (AB (AD 1) (AB (AD 2) AI)))) (AB (AJ AN (AD 0) (mC (.int 1))) (AB (AJ AN (AD 0) (mC (.int 2))) AI)))))
noncomputable def Jz(cm:List D->M D)(cJ:List D->M D)(cP:List D->M D)(cN:List D->M D):Sl->M (Fl×Sl):=
  (AQ (AZ (CS "Plan" "way_on" cm (AD 0) (AB (AD 2) (AB (AJ AN (AD 3) (mC (.int 0))) (AB (AJ AN (AD 3) (mC (.int 1))) (AB (AJ AN (AD 3) (mC (.int 3))) AI))))) 5)
  (AQ (A2 (AV (AJ (Ak false) (AJ AN (AD 5) (mC (.int 0))) (mC (.str "stands")))) (Ab (AF AX (AB (AF cJ (AB (AD 1) (AB (AD 2) (AB (AF AX (AB (AJ AN (AD 5) (mC (.int 1))) (AB (mC .non) (AB (AJ AN (AD 3) (mC (.int 1))) (AB (AJ AN (AD 3) (mC (.int 2))) (AB (AJ AN (AD 5) (mC (.int 2))) AI)))))) AI)))) (AB (mC .non) (AB (AD 4) AI))))) Ax)
  (AQ (A2 (AV (AJ (Ak true) (AJ AN (AD 5) (mC (.int 0))) (mC (.str "ends")))) (Ab (AF cP (AB (AJ AN (AD 5) (mC (.int 0))) (AB (AD 0) (AB (AD 2) (AB (AD 4) AI)))))) Ax)
  (AQ (AZ (AJ AN (mUn (CC "Plan" "names") (AD 0)) (AD 2)) 6)
  (AQ (AZ (AJ A0 (AD 4) (AF Ao (AB (mIf (AV (AJ (Ak false) (AD 2) (mC (.int 0)))) (AF AX (AB (mC (.str "end")) (AB (AD 6) AI))) (AF AX (AB (mC (.str "end")) (AB (AD 6) (AB (AJ AN (AD 5) (mC (.int 3))) AI))))) AI))) 7)
  (AQ (AZ (CS "Plan" "claim_on" cN (AD 0) (AB (AJ AN (AD 1) (mC (.int 2))) (AB (mC (.str "end")) (AB (AD 2) (AB (AJ AN (AD 5) (mC (.int 3))) AI))))) 8)
  (AQ (A2 (AV (AJ (Dr false) (AD 8) (mC .non))) (Ab (AF cP (AB (mC (.str "tells")) (AB (AD 0) (AB (AD 2) (AB (AD 7) AI)))))) Ax)
  (AQ (AZ (AF AX (AB (mC Ir) (AB (mC .non) (AB (mC (.int 0)) (AB (mC (.int 0)) (AB (AJ AN (AD 5) (mC (.int 2))) AI)))))) 9)
  (Ab (AF AX (AB (AF cJ (AB (AF AX (AB (AJ AN (AD 1) (mC (.int 0))) (AB (AJ AN (AD 1) (mC (.int 1))) (AB (AD 8) AI)))) (AB (AD 2) (AB (AD 9) AI)))) (AB (mC .non) (AB (AD 7) AI)))))))))))))
noncomputable def Fg  : Sl->M (Fl×Sl):=
  (AQ (A2 (AV (AJ Kv (AD 1) (AF DE (AB (AD 0) AI)))) (Ab (AJ AN (AD 0) (AD 1))) Ax)
  (Ab (mC (.int 0))))
noncomputable def Gj  : Sl->M (Fl×Sl):=
  (AQ (AZ (AF FC AI) 2)
  (AQ (A2 (AV (AJ QQ (AD 0) (AJ Si (mC (.int 10)) (mC (.int 40))))) (AQ (AZ (AJ DO (AD 0) (mC (.int 7))) 3)
  (AQ (DM (GC (AB (AD 1) AI)) (Aq 4) (AQ (A7 (Av Bk (AD 2) (AB (AJ BP (AD 3) (mC (.int 10000019))) AI)))
  (AZ (AJ DO (AD 3) (mC (.int 10000019))) 3)))
  (Ab (AJ Sb (AD 2) (mUn Sj (mC (.int 1))))))) Ax)
  (AQ (AZ (AJ BP (AJ C4 (AJ A0 (AJ BP (AD 0) (mC (.int 2147483647))) (mC (.int 1))) (mC (.int 48271))) (mC (.int 2147483647))) 5)
  (AQ (AZ (AJ BP (AJ C4 (AJ A0 (AJ BP (AD 0) (mC (.int 1000003))) (mC (.int 1))) (mC (.int 69621))) (mC (.int 2147483629))) 6)
  (AQ (DM (GC (AB (AD 1) AI)) (Aq 4) (AQ (AZ (AJ A0 (AJ A0 (AJ BP (AJ C4 (AD 5) (AJ A0 (AJ DO (AD 5) (mC (.int 1009))) (mC (.int 69621)))) (mC (.int 2147483647))) (AD 4)) (mC (.int 1))) 5)
  (AQ (AZ (AJ BP (AJ C4 (AD 6) (mC (.int 48271))) (mC (.int 2147483629))) 6)
  (A7 (Av Bk (AD 2) (AB (AJ A0 (AD 5) (AD 6)) AI))))))
  (Ab (AD 2)))))))
noncomputable def HW(ck:List D->M D)(dD:List D->M D):Sl->M (Fl×Sl):=
  (AQ (AZ (AF ck (AB (AD 0) AI)) 2)
  (AQ (DM (GC (AB (AF DE (AB (AD 1) AI)) AI)) (Aq 3) (AQ (Bl (AF dD (AB (AD 0) (AB (AD 2) (AB (AJ AN (AD 1) (AD 3)) AI)))) (CN [4,5,6]))
  (AQ (A2 (AV (AJ (Dr true) (AD 5) (mC .non))) (Ab (AF AX (AB (AD 3) (AB (AD 5) (AB (AD 6) (AB (AD 4) AI)))))) Ax)
  (AZ (AD 4) 2))))
  (Ab (AF AX (AB (AF DE (AB (AD 1) AI)) (AB (mC .non) (AB (AF Ao AI) (AB (mC .non) AI))))))))
noncomputable def J3  : Sl->M (Fl×Sl):=
  (Ab (AF AX (AB (mC (.str "safe")) (AB (mC (.int 9)) (AB (mC (.int 0)) (AB (AF AX (AB (AF AX (AB (mC (.str "a")) (AB (AD 0) (AB (AD 1) (AB (mC (.int 0)) (AB (mC (.str "w")) AI)))))) AI)) (AB (AF AX (AB (AF AX (AB (mC (.str "w")) (AB (AD 2) (AB (AF C2 (AB (AD 3) AI)) AI)))) (AB (AF AX (AB (mC (.str "r")) (AB (mC (.int 0)) (AB (AF AX (AB (AF AX (AB (mC (.str "tell")) (AB (AF AX (AB (mC (.str "num")) (AB (mC (.int 0)) AI))) AI))) AI)) AI)))) AI))) AI)))))))
noncomputable def MP  : Sl->M (Fl×Sl):=
  (AQ (AZ (AF AX (AB (AF AX (AB (mC (.str "w")) (AB (mC (.int 9)) (AB (AF AX (AB (AF AX (AB (mC (.str "put")) (AB (mC (.str "a")) (AB (AF AX (AB (mC (.str "var")) (AB (mC (.str "v")) AI))) AI)))) AI)) AI)))) (AB (AF AX (AB (mC (.str "r")) (AB (AD 2) (AB (AF C2 (AB (AD 3) AI)) AI)))) AI))) 5)
  (Ab (AF AX (AB (AD 0) (AB (mC (.int 5)) (AB (AD 4) (AB (AF AX (AB (AF AX (AB (mC (.str "a")) (AB (AD 1) (AB (mC (.int 5)) (AB (AD 4) (AB (mC (.str "w")) AI)))))) AI)) (AB (AD 5) AI))))))))
noncomputable def GA(cC:List D->M D):Sl->M (Fl×Sl):=
  (AQ (AZ (AJ AN (AF Ao (AB (mC (.str "safe")) (AB (mC (.str "steady")) AI))) (AD 1)) 2)
  (AQ (AZ (AF AX (AB (mC (.str "put")) (AB (mC (.str "a")) (AB (AF AX (AB (mC (.str "var")) (AB (mC (.str "v")) AI))) AI)))) 3)
  (AQ (AZ (AF Ao (AB (AF AX (AB (mC (.str "w")) (AB (AD 0) AI))) (AB (AF AX (AB (mC (.str "w")) (AB (mC (.int 0)) AI))) (AB (AF AX (AB (mC (.str "w")) (AB (mC (.int 0)) AI))) AI)))) 4)
  (AQ (AZ (AF FC (AB (AF AX (AB (AF cC (AB (AD 2) (AB (mC (.int 9)) (AB (mC (.int 0)) (AB (AF Ao (AB (AD 3) AI)) AI))))) (AB (CP (AD 4) BD (Ba (mC (.int 2)))) (AB (AF AX (AB (mC (.str "long")) (AB (mC (.str "w")) AI))) (AB (AF Ao AI) AI))))) AI)) 5)
  (AQ (A7 (Av Bk (AD 5) (AB (AF AX (AB (AF cC (AB (AD 2) (AB (mC (.int 9)) (AB (mC (.int 1)) (AB (AF Ao (AB (AD 3) AI)) AI))))) (AB (AD 4) (AB (AF AX (AB (mC (.str "long")) (AB (mC (.str "w")) AI))) (AB (AF Ao AI) AI))))) AI)))
  (AQ (A7 (Av Bk (AD 5) (AB (AF AX (AB (AF cC (AB (AD 2) (AB (mC (.int 9)) (AB (mC (.int 2)) (AB (AF Ao (AB (AD 3) AI)) AI))))) (AB (AD 4) (AB (mC .non) (AB (AF Ao AI) AI))))) AI)))
  (AQ (A7 (Av Bk (AD 5) (AB (AF AX (AB (AF cC (AB (AD 2) (AB (mC (.int 9)) (AB (mC (.int 3)) (AB (AF Ao (AB (AD 3) (AB (AD 3) AI))) AI))))) (AB (AJ A0 (AD 4) (AF Ao (AB (AF AX (AB (mC (.str "w")) (AB (mC (.int 0)) AI))) (AB (AF AX (AB (mC (.str "w")) (AB (mC (.int 0)) AI))) AI)))) (AB (AF AX (AB (mC (.str "long")) (AB (mC (.str "w")) AI))) (AB (AF Ao AI) AI))))) AI)))
  (AQ (A7 (Av Bk (AD 5) (AB (AF AX (AB (AF cC (AB (mC (.str "whole")) (AB (mC (.int 9)) (AB (mC (.int 0)) (AB (AF Ao (AB (AD 3) AI)) AI))))) (AB (CP (AD 4) BD (Ba (mC (.int 2)))) (AB (AF AX (AB (mC (.str "long")) (AB (mC (.str "w")) AI))) (AB (AF Ao AI) AI))))) AI)))
  (AQ (A7 (Av Bk (AD 5) (AB (AF AX (AB (AF cC (AB (mC (.str "whole")) (AB (mC (.int 9)) (AB (mC (.int 1)) (AB (AF Ao (AB (AD 3) AI)) AI))))) (AB (CP (AD 4) BD (Ba (mC (.int 2)))) (AB (mC .non) (AB (AF Ao AI) AI))))) AI)))
  (AQ (A7 (Av Bk (AD 5) (AB (AF AX (AB (AF cC (AB (AD 2) (AB (AF Qi (AB (mC (.int 2)) (AB (AJ A0 (AD 0) (mC (.int 1))) AI))) (AB (mC (.int 2)) (AB (AF Ao (AB (AD 3) AI)) AI))))) (AB (AD 4) (AB (mC .non) (AB (AF Ao AI) AI))))) AI)))
  (AQ (A7 (Av Bk (AD 5) (AB (AF AX (AB (AF cC (AB (mC (.str "whole")) (AB (AF Qi (AB (mC (.int 2)) (AB (AJ A0 (AD 0) (mC (.int 1))) AI))) (AB (mC (.int 1)) (AB (AF Ao (AB (AD 3) AI)) AI))))) (AB (CP (AD 4) BD (Ba (mC (.int 2)))) (AB (mC .non) (AB (AF Ao AI) AI))))) AI)))
  (AQ (A2 (AV (AJ Zn (AD 0) (mC (.int 1)))) (AQ (A7 (Av Bk (AD 5) (AB (AF AX (AB (AF cC (AB (AD 2) (AB (AD 0) (AB (mC (.int 2)) (AB (AF Ao (AB (AD 3) AI)) AI))))) (AB (CP (AD 4) BD (Ba (mC (.int 2)))) (AB (AF AX (AB (mC (.str "great")) (AB (mC (.str "w")) AI))) (AB (AF Ao AI) AI))))) AI)))
  (AQ (A7 (Av Bk (AD 5) (AB (AF AX (AB (AF cC (AB (mC (.str "whole")) (AB (AD 0) (AB (mC (.int 2)) (AB (AF Ao (AB (AF AX (AB (mC (.str "jump")) (AB (mC (.int 1)) AI))) (AB (AD 3) AI))) AI))))) (AB (CP (AD 4) BD (Ba (mC (.int 2)))) (AB (AF AX (AB (mC (.str "great")) (AB (mC (.str "w")) AI))) (AB (AF Ao AI) AI))))) AI)))
  (A7 (Av Bk (AD 5) (AB (AF AX (AB (AF cC (AB (AD 2) (AB (AD 0) (AB (mC (.int 0)) (AB (AF Ao (AB (AD 3) AI)) AI))))) (AB (CP (AD 4) BD (Ba (mC (.int 2)))) (AB (AF AX (AB (mC (.str "long")) (AB (mC (.str "w")) AI))) (AB (AF Ao AI) AI))))) AI))))) Ax)
  (AQ (A2 (AV (AJ (Ak false) (AJ BP (AD 0) (mC (.int 4))) (mC (.int 1)))) (AQ (AZ (AJ A0 (AJ C4 (AF Ao (AB (AF AX (AB (mC (.str "let")) (AB (mC (.str "x")) (AB (AF AX (AB (mC (.str "num")) (AB (AD 0) AI))) AI)))) AI)) (AD 1)) (AF Ao (AB (AD 3) (AB (AF AX (AB (mC (.str "jump")) (AB (mC (.int 0)) AI))) AI)))) 6)
  (AQ (AZ (AJ A0 (CP (AD 4) BD (Ba (mC (.int 1)))) (AJ C4 (AF Ao (AB (AF AX (AB (mC (.str "w")) (AB (mC (.int 0)) AI))) AI)) (mC (.int 401)))) 7)
  (AQ (A7 (Av Bk (AD 5) (AB (AF AX (AB (AF cC (AB (mC (.str "whole")) (AB (mC (.int 9)) (AB (mC (.int 400)) (AB (AD 6) AI))))) (AB (CP (AD 7) BD (Ba (mUn Sj (mC (.int 1))))) (AB (mC .non) (AB (AF Ao AI) AI))))) AI)))
  (AQ (A7 (Av Bk (AD 5) (AB (AF AX (AB (AF cC (AB (mC (.str "whole")) (AB (mC (.int 9)) (AB (mC (.int 400)) (AB (AD 6) AI))))) (AB (AD 7) (AB (AF AX (AB (mC (.str "long")) (AB (mC (.str "w")) AI))) (AB (AF Ao AI) AI))))) AI)))
  (A7 (Av Bk (AD 5) (AB (AF AX (AB (AF cC (AB (mC (.str "whole")) (AB (mC (.int 9)) (AB (mC (.int 1)) (AB (AJ A0 (AJ C4 (AF Ao (AB (AF AX (AB (mC (.str "let")) (AB (mC (.str "x")) (AB (AF AX (AB (mC (.str "num")) (AB (AD 0) AI))) AI)))) AI)) (mC (.int 59))) (AF Ao (AB (AD 3) AI))) AI))))) (AB (CP (AD 4) BD (Ba (mC (.int 2)))) (AB (mC .non) (AB (AF Ao AI) AI))))) AI))))))) Ax)
  (AQ (AZ (AF Ao (AB (AF AX (AB (mC (.str "let")) (AB (mC (.str "x")) (AB (AF AX (AB (mC (.str "-")) (AB (AF AX (AB (mC (.str "num")) (AB (mC (.int 1)) AI))) (AB (AF AX (AB (mC (.str "var")) (AB (mC (.str "x")) AI))) AI)))) AI)))) (AB (AF AX (AB (mC (.str "jump")) (AB (mC (.int 0)) AI))) AI))) 8)
  (AQ (A7 (Av Bk (AD 5) (AB (AF AX (AB (AF cC (AB (AD 2) (AB (mC (.int 9)) (AB (mC (.int 2)) (AB (AD 8) AI))))) (AB (CP (AD 4) BD (Ba (mC (.int 1)))) (AB (AF AX (AB (mC (.str "stuck")) (AB (mC (.str "w")) AI))) (AB (AF Ao (AB (AF AX (AB (mC (.str "begin")) (AB (mC (.str "w")) (AB (AD 0) AI)))) AI)) AI))))) AI)))
  (AQ (A7 (Av Bk (AD 5) (AB (AF AX (AB (AF cC (AB (AD 2) (AB (mC (.int 9)) (AB (mC (.int 2)) (AB (AF Ao (AB (AD 3) (AB (AF AX (AB (mC (.str "jump")) (AB (mC (.int 1)) AI))) AI))) AI))))) (AB (AD 4) (AB (AF AX (AB (mC (.str "stuck")) (AB (mC (.str "w")) AI))) (AB (AF Ao AI) AI))))) AI)))
  (AQ (AZ (AF Ao (AB (AF AX (AB (mC (.str "let")) (AB (mC (.str "x")) (AB (AF AX (AB (mC (.str "+")) (AB (AF AX (AB (mC (.str "var")) (AB (mC (.str "x")) AI))) (AB (AF AX (AB (mC (.str "num")) (AB (mC (.int 1)) AI))) AI)))) AI)))) (AB (AF AX (AB (mC (.str "unless")) (AB (AF AX (AB (mC (.str "=")) (AB (AF AX (AB (mC (.str "var")) (AB (mC (.str "x")) AI))) (AB (AF AX (AB (mC (.str "num")) (AB (mC (.int 9)) AI))) AI)))) (AB (mC (.int 0)) AI)))) AI))) 8)
  (Ab (AJ IH (AD 5) (AF Ao (AB (AF AX (AB (AF cC (AB (AD 2) (AB (mC (.int 9)) (AB (mC (.int 2)) (AB (AD 8) AI))))) (AB (CP (AD 4) BD (Ba (mC (.int 1)))) (AB (mC .non) (AB (AF Ao AI) AI))))) AI)))))))))))))))))))))
noncomputable def GB(cF:List D->M D):Sl->M (Fl×Sl):=
  (AQ (AZ (AJ AN (AF Ao (AB (mC (.str "safe")) (AB (mC (.str "steady")) AI))) (AD 1)) 2)
  (AQ (AZ (AJ AN (AF Ao (AB (mC (.str "safe")) (AB (mC (.str "steady")) (AB (mC (.str "whole")) AI)))) (AJ BP (AD 0) (mC (.int 3)))) 3)
  (AQ (AZ (AF AX (AB (mC (.str "get")) (AB (mC (.str "x")) (AB (mC (.str "a")) AI)))) 4)
  (AQ (AZ (AF AX (AB (mC (.str "tell")) (AB (AF AX (AB (mC (.str "var")) (AB (mC (.str "x")) AI))) AI))) 5)
  (AQ (AZ (AF Ao (AB (AF AX (AB (mC (.str "r")) (AB (mC (.int 0)) AI))) (AB (AF AX (AB (mC (.str "r")) (AB (mC (.int 0)) AI))) (AB (AF AX (AB (mC (.str "r")) (AB (AJ BP (AD 0) (mC (.int 5))) AI))) AI)))) 6)
  (AQ (AZ (AF FC (AB (AF AX (AB (AF cF (AB (AD 3) (AB (AD 2) (AB (mC (.int 1)) (AB (AF Ao (AB (AD 4) (AB (AD 5) AI))) (AB (AJ BP (AD 0) (mC (.int 5))) AI)))))) (AB (AD 6) (AB (AF AX (AB (mC (.str "long")) (AB (mC (.str "r")) AI))) (AB (AF Ao AI) AI))))) AI)) 7)
  (AQ (A7 (Av Bk (AD 7) (AB (AF AX (AB (AF cF (AB (AD 3) (AB (AD 2) (AB (mC (.int 2)) (AB (AF Ao (AB (AD 4) (AB (AD 5) AI))) (AB (AJ BP (AD 0) (mC (.int 5))) AI)))))) (AB (AD 6) (AB (mC .non) (AB (AF Ao AI) AI))))) AI)))
  (AQ (A7 (Av Bk (AD 7) (AB (AF AX (AB (AF cF (AB (AD 3) (AB (mC (.str "whole")) (AB (mC (.int 0)) (AB (AF Ao (AB (AD 4) (AB (AD 5) AI))) (AB (AJ BP (AD 0) (mC (.int 5))) AI)))))) (AB (CP (AD 6) BD (Ba (mC (.int 2)))) (AB (AF AX (AB (mC (.str "long")) (AB (mC (.str "r")) AI))) (AB (AF Ao AI) AI))))) AI)))
  (AQ (A7 (Av Bk (AD 7) (AB (AF AX (AB (AF cF (AB (AD 3) (AB (mC (.str "whole")) (AB (mC (.int 1)) (AB (AF Ao (AB (AD 4) (AB (AD 5) AI))) (AB (AJ BP (AD 0) (mC (.int 5))) AI)))))) (AB (CP (AD 6) BD (Ba (mC (.int 2)))) (AB (mC .non) (AB (AF Ao AI) AI))))) AI)))
  (AQ (A7 (Av Bk (AD 7) (AB (AF AX (AB (AF cF (AB (AD 3) (AB (AD 2) (AB (mC (.int 2)) (AB (AF Ao (AB (AD 4) AI)) (AB (AJ BP (AD 0) (mC (.int 5))) AI)))))) (AB (AD 6) (AB (AF AX (AB (mC (.str "silent")) (AB (mC (.str "r")) AI))) (AB (AF Ao AI) AI))))) AI)))
  (AQ (A7 (Av Bk (AD 7) (AB (AF AX (AB (AF cF (AB (AD 3) (AB (AD 2) (AB (mC (.int 2)) (AB (AF Ao (AB (AF AX (AB (mC (.str "jump")) (AB (mC (.int 2)) AI))) (AB (AD 5) AI))) (AB (mC (.int 0)) AI)))))) (AB (CP (AD 6) BD (Ba (mC (.int 1)))) (AB (AF AX (AB (mC (.str "silent")) (AB (mC (.str "r")) AI))) (AB (AF Ao (AB (AF AX (AB (mC (.str "begin")) (AB (mC (.str "r")) AI))) AI)) AI))))) AI)))
  (AQ (A7 (Av Bk (AD 7) (AB (AF AX (AB (AF cF (AB (AD 3) (AB (AD 2) (AB (mC (.int 2)) (AB (AF Ao AI) (AB (mC (.int 0)) AI)))))) (AB (CP (AD 6) BD (Ba (mC (.int 1)))) (AB (AF AX (AB (mC (.str "silent")) (AB (mC (.str "r")) AI))) (AB (AF Ao (AB (AF AX (AB (mC (.str "begin")) (AB (mC (.str "r")) AI))) AI)) AI))))) AI)))
  (AQ (AZ (AF AX (AB (mC (.str "tell")) (AB (AF AX (AB (mC (.str "num")) (AB (AJ A0 (mC (.int 5)) (AJ BP (AD 0) (mC (.int 5)))) AI))) AI))) 8)
  (AQ (A7 (Av Bk (AD 7) (AB (AF AX (AB (AF cF (AB (AD 3) (AB (AD 2) (AB (mC (.int 2)) (AB (AF Ao (AB (AD 8) AI)) (AB (mC (.int 0)) AI)))))) (AB (CP (AD 6) BD (Ba (mC (.int 1)))) (AB (AF AX (AB (mC (.str "great")) (AB (mC (.str "r")) AI))) (AB (AF Ao (AB (AF AX (AB (mC (.str "begin")) (AB (mC (.str "r")) AI))) AI)) AI))))) AI)))
  (AQ (AZ (AF AX (AB (mC (.str "tell")) (AB (AF AX (AB (mC (.str "num")) (AB (AJ BP (AJ A0 (AD 0) (mC (.int 1))) (mC (.int 5))) AI))) AI))) 9)
  (AQ (AZ (AF Ao (AB (AF AX (AB (mC (.str "begin")) (AB (mC (.str "r")) AI))) (AB (AF AX (AB (mC (.str "end")) (AB (mC (.str "r")) (AB (AJ BP (AJ A0 (AD 0) (mC (.int 1))) (mC (.int 5))) AI)))) AI))) 10)
  (AQ (A7 (Av Bk (AD 7) (AB (AF AX (AB (AF cF (AB (AD 3) (AB (AD 2) (AB (mC (.int 2)) (AB (AF Ao (AB (AD 9) AI)) (AB (AJ BP (AD 0) (mC (.int 5))) AI)))))) (AB (CP (AD 6) BD (Ba (mC (.int 1)))) (AB (AF AX (AB (mC (.str "tells")) (AB (mC (.str "r")) AI))) (AB (AD 10) AI))))) AI)))
  (AQ (A7 (Av Bk (AD 7) (AB (AF AX (AB (AF cF (AB (AD 3) (AB (AD 2) (AB (mC (.int 2)) (AB (AF Ao (AB (AD 4) (AB (AD 9) AI))) (AB (AJ BP (AD 0) (mC (.int 5))) AI)))))) (AB (AD 6) (AB (AF AX (AB (mC (.str "tells")) (AB (mC (.str "r")) AI))) (AB (CP (AD 10) (Ba (mC (.int 1))) BD) AI))))) AI)))
  (AQ (AZ (AF FC AI) 11)
  (AQ (DM (GC (AB (mC (.int 3)) AI)) (Aq 12) (AQ (A7 (Av Bk (AD 11) (AB (AF AX (AB (mC (.str "let")) (AB (AJ AN (mC (.str "xyz")) (AD 12)) (AB (AF AX (AB (mC (.str "+")) (AB (AF AX (AB (mC (.str "var")) (AB (AJ AN (mC (.str "xyz")) (AD 12)) AI))) (AB (AF AX (AB (mC (.str "num")) (AB (mC (.int 1)) AI))) AI)))) AI)))) AI)))
  (AQ (A7 (Av Bk (AD 11) (AB (AF AX (AB (mC (.str "unless")) (AB (AF AX (AB (mC (.str "=")) (AB (AF AX (AB (mC (.str "var")) (AB (AJ AN (mC (.str "xyz")) (AD 12)) AI))) (AB (AF AX (AB (mC (.str "num")) (AB (mC (.int 9)) AI))) AI)))) (AB (mC (.int 0)) AI)))) AI)))
  (A7 (Av Bk (AD 11) (AB (AF AX (AB (mC (.str "let")) (AB (AJ AN (mC (.str "xyz")) (AD 12)) (AB (AF AX (AB (mC (.str "num")) (AB (mC (.int 0)) AI))) AI)))) AI))))))
  (AQ (A2 (AV (AJ (Ak false) (AJ BP (AD 0) (mC (.int 4))) (mC (.int 0)))) (AQ (AZ (AF cF (AB (AD 3) (AB (AD 2) (AB (mC (.int 0)) (AB (AJ IH (AD 11) (AF Ao (AB (AF AX (AB (mC (.str "tell")) (AB (AF AX (AB (mC (.str "num")) (AB (AJ BP (AD 0) (mC (.int 5))) AI))) AI))) AI))) (AB (AJ BP (AD 0) (mC (.int 5))) AI)))))) 10)
  (AQ (A7 (Av Bk (AD 7) (AB (AF AX (AB (AD 10) (AB (CP (AD 6) BD (Ba (mC (.int 1)))) (AB (mC .non) (AB (AF Ao AI) AI))))) AI)))
  (AQ (AZ (AF cF (AB (AD 3) (AB (AD 2) (AB (mC (.int 0)) (AB (AJ IH (AD 11) (AF Ao (AB (AF AX (AB (mC (.str "jump")) (AB (mC (.int 0)) AI))) AI))) (AB (AJ BP (AD 0) (mC (.int 5))) AI)))))) 13)
  (A7 (Av Bk (AD 7) (AB (AF AX (AB (AD 13) (AB (CP (AD 6) BD (Ba (mC (.int 1)))) (AB (AF AX (AB (mC (.str "stuck")) (AB (mC (.str "r")) AI))) (AB (AF Ao (AB (AF AX (AB (mC (.str "begin")) (AB (mC (.str "r")) AI))) AI)) AI))))) AI)))))) Ax)
  (AQ (AZ (AF cF (AB (AD 3) (AB (AD 2) (AB (mC (.int 2)) (AB (AF Ao (AB (AF AX (AB (mC (.str "unless")) (AB (AF AX (AB (mC (.str "num")) (AB (mC (.int 0)) AI))) (AB (mC (.int 0)) AI)))) AI)) (AB (mC (.int 0)) AI)))))) 14)
  (Ab (AJ IH (AD 7) (AF Ao (AB (AF AX (AB (AD 14) (AB (CP (AD 6) BD (Ba (mC (.int 1)))) (AB (AF AX (AB (mC (.str "stuck")) (AB (mC (.str "r")) AI))) (AB (AF Ao (AB (AF AX (AB (mC (.str "begin")) (AB (mC (.str "r")) AI))) AI)) AI))))) AI))))))))))))))))))))))))))
noncomputable def Wp(c9:List D->M D)(dB:List D->M D)(cp:List D->M D)(cr:List D->M D)(dH:List D->M D):Sl->M (Fl×Sl):=
  (AQ (AZ (AF dB (AB (AF c9 (AB (AD 0) (AB (mC (.int 0)) AI))) (AB (mC (.int 4)) AI))) 1)
  (AQ (AZ (AJ BP (AJ DO (Dw Nd (AD 1)) (mC (.int 3))) (mC (.int 9))) 2)
  (AQ (AZ (AJ BP (AJ DO (Dw Nd (AD 1)) (mC (.int 3))) (mC (.int 2))) 3)
  (AQ (DM (Dv (AJ A0 (AF cp (AB (AD 2) (AB (AD 3) AI))) (AF cr (AB (AD 2) (AB (AD 3) AI))))) (CN [4,5,6,7]) (AQ (Bl (AF dH (AB (AD 4) (AB (AD 5) AI))) (CN [8,9,10,11]))
  (AQ (A2 (K2 (AV (AJ (Ak true) (AD 9) (AD 6))) (AV (AJ (Dr true) (AD 11) (mC .non)))) (Ab (mC (.bl false))) Ax)
  (AQ (A2 (Ei (AV (AJ (Dr false) (AD 6) (mC .non))) (AV (AJ (Ak true) (AD 8) (AF DE (AB (AD 5) AI))))) (Ab (mC (.bl false))) Ax)
  (A2 (Ei (AV (AJ (Dr true) (AD 6) (mC .non))) (K2 (AV (AJ (Ak true) (AD 8) (AJ Ea (AF DE (AB (AD 5) AI)) (mC (.int 1))))) (AV (AJ (Ak true) (AD 10) (AD 7))))) (Ab (mC (.bl false))) Ax)))))
  (Ab (mC (.bl true)))))))
end K24
local macro_rules | `(tactic| wtm_at "c")=>`(tactic| simp only[Mi.Bt,Mi.Cz,Mi.Bu,Mi.By,Mi.Bb,Mi.CF,Mi.Cu,Mi.CK,Mi.Cy,Mi.Bs,Mi.CG])
namespace Mi
section
variable{α:Type}{P:List α->Prop}
theorem lq1(h:∀a,P [a]):∀us:List α,us.length=1->P us:=λus e=>by
 rcases us with _|⟨a,us⟩
 ·cases e
 ·cases List.eq_nil_of_length_eq_zero (Nat.succ.inj e);exact h a
theorem lqs(h:∀a,∀us:List α,us.length=n->P (a::us)):∀us:List α,us.length=n+1->P us:=λus e=>by
 rcases us with _|⟨a,us⟩
 ·cases e
 ·exact h a us (Nat.succ.inj e)
theorem lq2(h:∀a b,P [a,b]):∀us:List α,us.length=2->P us:=lqs λa=>lq1 (P:=λl=>P (a::l)) (h a)
theorem lq3(h:∀a b c,P [a,b,c]):∀us:List α,us.length=3->P us:=lqs λa=>lq2 (P:=λl=>P (a::l)) (h a)
theorem lq4(h:∀a b c d,P [a,b,c,d]):∀us:List α,us.length=4->P us:=lqs λa=>lq3 (P:=λl=>P (a::l)) (h a)
theorem lq5(h:∀a b c d e,P [a,b,c,d,e]):∀us:List α,us.length=5->P us:=lqs λa=>lq4 (P:=λl=>P (a::l)) (h a)
end
end Mi
namespace K24
open PySem L2 Mi
noncomputable def WF:List Str:=["making", "names", "variables", "places", "ways", "claims"]
noncomputable def top(i:Nat):Stmt:=PySem.Challenge.pw_strongboxes_k24_how_a_step_breaks.main.body.getD i (.Pass ⟨0,0,0,0⟩)
section
noncomputable abbrev FI:Stmt:=top 4
theorem sc_claim_begun:Ae ["making", "readers"] ["making"] (AT FI):=⟨rfl,rfl,rfl,by decide +kernel,rfl,by decide +kernel,by decide +kernel⟩
noncomputable abbrev EW:Stmt:=top 5
theorem sc_claim_writes:Ae ["making", "claim", "worth", "tells"] ["making", "claim", "worth"] (AT EW):=⟨rfl,rfl,rfl,by decide +kernel,rfl,by decide +kernel,by decide +kernel⟩
noncomputable abbrev D7:Stmt:=top 6
theorem sc_claim_written:Ae ["making", "claim"] ["making", "claim"] (AT D7):=⟨rfl,rfl,rfl,by decide +kernel,rfl,by decide +kernel,by decide +kernel⟩
noncomputable abbrev FH:Stmt:=top 7
theorem sc_claim_reads:Ae ["making", "claim", "reader", "told"] ["making", "claim", "reader"] (AT FH):=⟨rfl,rfl,rfl,by decide +kernel,rfl,by decide +kernel,by decide +kernel⟩
noncomputable abbrev Fv:Stmt:=top 8
theorem sc_claim_told:Ae ["making", "claim", "reader", "worth", "left"] ["making", "claim", "reader", "worth"] (AT Fv):=⟨rfl,rfl,rfl,by decide +kernel,rfl,by decide +kernel,by decide +kernel⟩
noncomputable abbrev Lu:Stmt:=top 9
theorem sc_beside:Ae ["kind", "size", "worths", "coming"] ["kind", "size", "worths", "coming"] (AT Lu):=⟨rfl,rfl,rfl,by decide +kernel,rfl,by decide +kernel,by decide +kernel⟩
noncomputable abbrev Ft:Stmt:=top 10
theorem sc_with_thing:Ae ["things", "place", "thing"] ["things", "place", "thing"] (AT Ft):=⟨rfl,rfl,rfl,by decide +kernel,rfl,by decide +kernel,by decide +kernel⟩
noncomputable abbrev Fx:Stmt:=top 11
theorem sc_case_begun:Ae ["case", "hand", "worth"] ["case", "hand", "worth"] (AT Fx):=⟨rfl,rfl,rfl,by decide +kernel,rfl,by decide +kernel,by decide +kernel⟩
noncomputable abbrev Fw:Stmt:=top 12
theorem sc_case_ended:Ae ["case", "hand", "worth"] ["case", "hand", "worth"] (AT Fw):=⟨rfl,rfl,rfl,by decide +kernel,rfl,by decide +kernel,by decide +kernel⟩
noncomputable abbrev FJ:Stmt:=top 13
theorem sc_cases_ended:Ae ["cases", "hand", "worth", "ended"] ["cases", "hand", "worth"] (AT FJ):=⟨rfl,rfl,rfl,by decide +kernel,rfl,by decide +kernel,by decide +kernel⟩
noncomputable abbrev Lr:Stmt:=top 14
theorem sc_closed:Ae ["cases"] ["cases"] (AT Lr):=⟨rfl,rfl,rfl,by decide +kernel,rfl,by decide +kernel,by decide +kernel⟩
noncomputable abbrev Jj:Stmt:=top 15
theorem sc_reached:Ae ["cases", "ways", "case", "waiting", "hand", "later"] ["cases"] (AT Jj):=⟨rfl,rfl,rfl,by decide +kernel,rfl,by decide +kernel,by decide +kernel⟩
noncomputable abbrev EV:Stmt:=top 16
theorem sc_moments_from:Ae ["case", "later", "reader", "told"] ["case"] (AT EV):=⟨rfl,rfl,rfl,by decide +kernel,rfl,by decide +kernel,by decide +kernel⟩
noncomputable abbrev Hy:Stmt:=top 22
theorem sc_is_whole:Ae ["thing", "least", "most"] ["thing", "least", "most"] (AT Hy):=⟨rfl,rfl,rfl,by decide +kernel,rfl,by decide +kernel,by decide +kernel⟩
noncomputable abbrev EU:Stmt:=top 23
theorem sc_variables_in:Ae ["expression", "names", "part"] ["expression"] (AT EU):=⟨rfl,rfl,rfl,by decide +kernel,rfl,by decide +kernel,by decide +kernel⟩
noncomputable abbrev HE:Stmt:=top 24
theorem sc_number_of:Ae ["expression", "numbers", "word", "first"] ["expression", "numbers"] (AT HE):=⟨rfl,rfl,rfl,by decide +kernel,rfl,by decide +kernel,by decide +kernel⟩
noncomputable abbrev DV:Stmt:=top 25
theorem sc_number_of_pair:Ae ["word", "first", "second"] ["word", "first", "second"] (AT DV):=⟨rfl,rfl,rfl,by decide +kernel,rfl,by decide +kernel,by decide +kernel⟩
noncomputable abbrev HD:Stmt:=top 26
theorem sc_one_where:Ae ["holds"] ["holds"] (AT HD):=⟨rfl,rfl,rfl,by decide +kernel,rfl,by decide +kernel,by decide +kernel⟩
noncomputable abbrev Hz:Stmt:=top 29
theorem sc_is_tuple:Ae ["thing", "least", "most"] ["thing", "least", "most"] (AT Hz):=⟨rfl,rfl,rfl,by decide +kernel,rfl,by decide +kernel,by decide +kernel⟩
noncomputable abbrev ET:Stmt:=top 30
theorem sc_variables_of:Ae ["row", "names", "part", "thing"] ["row"] (AT ET):=⟨rfl,rfl,rfl,by decide +kernel,rfl,by decide +kernel,by decide +kernel⟩
noncomputable abbrev EX:Stmt:=top 32
theorem sc_claim_behind:Ae ["making", "claim", "act", "begins", "reader"] ["making", "claim", "act"] (AT EX):=⟨rfl,rfl,rfl,by decide +kernel,rfl,by decide +kernel,by decide +kernel⟩
noncomputable abbrev EA:Stmt:=J9 (top 35) 0
theorem sc_Plan___init__:Ae ["self", "making", "place", "box"] ["self", "making"] (AT EA):=⟨rfl,rfl,rfl,by decide +kernel,rfl,by decide +kernel,by decide +kernel⟩
noncomputable abbrev FL:Stmt:=J9 (top 35) 1
theorem sc_Plan_row_at:Ae ["self", "number", "at"] ["self", "number", "at"] (AT FL):=⟨rfl,rfl,rfl,by decide +kernel,rfl,by decide +kernel,by decide +kernel⟩
noncomputable abbrev D8:Stmt:=J9 (top 35) 2
theorem sc_Plan_place_of:Ae ["self", "row"] ["self", "row"] (AT D8):=⟨rfl,rfl,rfl,by decide +kernel,rfl,by decide +kernel,by decide +kernel⟩
noncomputable abbrev Ca:Stmt:=J9 (top 35) 3
theorem sc_Plan_named_numbers:Ae ["self", "number", "worth", "numbers", "named"] ["self", "number", "worth", "numbers"] (AT Ca):=⟨rfl,rfl,rfl,by decide +kernel,rfl,by decide +kernel,by decide +kernel⟩
noncomputable abbrev FK:Stmt:=J9 (top 35) 4
theorem sc_Plan_way_on:Ae ["self", "number", "at", "worth", "numbers", "asked"] ["self", "number", "at", "worth", "numbers"] (AT FK):=⟨rfl,rfl,rfl,by decide +kernel,rfl,by decide +kernel,by decide +kernel⟩
noncomputable abbrev D9:Stmt:=J9 (top 35) 5
theorem sc_Plan_claim_on:Ae ["self", "claim", "word", "number", "worth", "asked"] ["self", "claim", "word", "number", "worth"] (AT D9):=⟨rfl,rfl,rfl,by decide +kernel,rfl,by decide +kernel,by decide +kernel⟩
noncomputable abbrev Cp:Stmt:=top 36
theorem sc_variables_of_rows:Ae ["rows", "names", "row"] ["rows"] (AT Cp):=⟨rfl,rfl,rfl,by decide +kernel,rfl,by decide +kernel,by decide +kernel⟩
noncomputable abbrev HB:Stmt:=top 37
theorem sc_way_found:Ae ["plan", "number", "at", "worth", "numbers", "rows", "named", "later", "row", "told"] ["plan", "number", "at", "worth", "numbers"] (AT HB):=⟨rfl,rfl,rfl,by decide +kernel,rfl,by decide +kernel,by decide +kernel⟩
noncomputable abbrev H9:Stmt:=top 38
theorem sc_followed:Ae ["rows", "at", "named", "kept_at", "kept_named", "span", "left"] ["rows", "at", "named"] (AT H9):=⟨rfl,rfl,rfl,by decide +kernel,rfl,by decide +kernel,by decide +kernel⟩
noncomputable abbrev Fu:Stmt:=top 39
theorem sc_row_behind:Ae ["row", "at", "named"] ["row", "at", "named"] (AT Fu):=⟨rfl,rfl,rfl,by decide +kernel,rfl,by decide +kernel,by decide +kernel⟩
noncomputable abbrev FG:Stmt:=top 42
theorem sc_first_stand:Ae ["making"] ["making"] (AT FG):=⟨rfl,rfl,rfl,by decide +kernel,rfl,by decide +kernel,by decide +kernel⟩
noncomputable abbrev Ji:Stmt:=top 43
theorem sc_stepped:Ae ["making", "stand", "step", "plan", "move"] ["making", "stand", "step"] (AT Ji):=⟨rfl,rfl,rfl,by decide +kernel,rfl,by decide +kernel,by decide +kernel⟩
noncomputable abbrev FF:Stmt:=top 44
theorem sc_stand_begun:Ae ["plan", "hands", "boxes"] ["plan"] (AT FF):=⟨rfl,rfl,rfl,by decide +kernel,rfl,by decide +kernel,by decide +kernel⟩
noncomputable abbrev Hw:Stmt:=top 45
theorem sc_moves_of:Ae ["plan", "stand", "moves", "number", "hand", "pick"] ["plan", "stand"] (AT Hw):=⟨rfl,rfl,rfl,by decide +kernel,rfl,by decide +kernel,by decide +kernel⟩
noncomputable abbrev Hv:Stmt:=top 46
theorem sc_picks_of:Ae ["plan", "number", "hand"] ["plan", "number", "hand"] (AT Hv):=⟨rfl,rfl,rfl,by decide +kernel,rfl,by decide +kernel,by decide +kernel⟩
noncomputable abbrev Jk:Stmt:=top 47
theorem sc_move_of:Ae ["plan", "stand", "step", "move"] ["plan", "stand", "step"] (AT Jk):=⟨rfl,rfl,rfl,by decide +kernel,rfl,by decide +kernel,by decide +kernel⟩
noncomputable abbrev Ot:Stmt:=top 48
theorem sc_moved:Ae ["plan", "stand", "move", "number", "hand", "row", "place"] ["plan", "stand", "move"] (AT Ot):=⟨rfl,rfl,rfl,by decide +kernel,rfl,by decide +kernel,by decide +kernel⟩
noncomputable abbrev Ls:Stmt:=top 49
theorem sc_broken:Ae ["word", "plan", "number", "events"] ["word", "plan", "number", "events"] (AT Ls):=⟨rfl,rfl,rfl,by decide +kernel,rfl,by decide +kernel,by decide +kernel⟩
noncomputable abbrev Ou:Stmt:=top 50
theorem sc_begun:Ae ["plan", "stand", "move", "number", "worth", "event", "claim"] ["plan", "stand", "move"] (AT Ou):=⟨rfl,rfl,rfl,by decide +kernel,rfl,by decide +kernel,by decide +kernel⟩
noncomputable abbrev Wd:Stmt:=top 51
theorem sc_got:Ae ["plan", "stand", "move", "row", "number", "hand", "place", "box", "there", "may", "worth", "numbers"] ["plan", "stand", "move", "row"] (AT Wd):=⟨rfl,rfl,rfl,by decide +kernel,rfl,by decide +kernel,by decide +kernel⟩
noncomputable abbrev Wb:Stmt:=top 52
theorem sc_put:Ae ["plan", "stand", "number", "row", "hand", "place", "box", "worth", "hands", "boxes"] ["plan", "stand", "number", "row"] (AT Wb):=⟨rfl,rfl,rfl,by decide +kernel,rfl,by decide +kernel,by decide +kernel⟩
noncomputable abbrev HC:Stmt:=top 53
theorem sc_put_ended:Ae ["plan", "stand", "number", "place", "worth", "hand", "later"] ["plan", "stand", "number", "place", "worth"] (AT HC):=⟨rfl,rfl,rfl,by decide +kernel,rfl,by decide +kernel,by decide +kernel⟩
noncomputable abbrev Jm:Stmt:=top 54
theorem sc_between:Ae ["hand", "half"] ["hand", "half"] (AT Jm):=⟨rfl,rfl,rfl,by decide +kernel,rfl,by decide +kernel,by decide +kernel⟩
noncomputable abbrev Fy:Stmt:=top 55
theorem sc_beside_put:Ae ["plan", "number", "hand", "place", "worth", "row", "box"] ["plan", "number", "hand", "place", "worth"] (AT Fy):=⟨rfl,rfl,rfl,by decide +kernel,rfl,by decide +kernel,by decide +kernel⟩
noncomputable abbrev HA:Stmt:=top 56
theorem sc_with_hand:Ae ["stand", "number", "hand"] ["stand", "number", "hand"] (AT HA):=⟨rfl,rfl,rfl,by decide +kernel,rfl,by decide +kernel,by decide +kernel⟩
noncomputable abbrev Jl:Stmt:=top 57
theorem sc_gone_on:Ae ["plan", "stand", "number", "deed", "events", "way", "name", "ended", "claim", "idle"] ["plan", "stand", "number", "deed", "events"] (AT Jl):=⟨rfl,rfl,rfl,by decide +kernel,rfl,by decide +kernel,by decide +kernel⟩
noncomputable abbrev IA:Stmt:=top 59
theorem sc_Lcell_at:Ae ["_law_script", "_law_k"] ["_law_script", "_law_k"] (AT IA):=⟨rfl,rfl,rfl,by decide +kernel,rfl,by decide +kernel,by decide +kernel⟩
noncomputable abbrev Jo:Stmt:=top 60
theorem sc_Lstream:Ae ["_law_cell", "_law_size", "_law_found", "_law_rest", "_law_k", "_law_number", "_law_other"] ["_law_cell", "_law_size"] (AT Jo):=⟨rfl,rfl,rfl,by decide +kernel,rfl,by decide +kernel,by decide +kernel⟩
noncomputable abbrev Ov:Stmt:=top 61
theorem sc_Lwalk:Ae ["_law_making", "_law_weaving", "_law_stand", "_law_k", "_law_later", "_law_broken", "_law_events"] ["_law_making", "_law_weaving"] (AT Ov):=⟨rfl,rfl,rfl,by decide +kernel,rfl,by decide +kernel,by decide +kernel⟩
noncomputable abbrev Jn:Stmt:=top 62
theorem sc_Lwrites:Ae ["_law_kind", "_law_size", "_law_within", "_law_rows"] ["_law_kind", "_law_size", "_law_within", "_law_rows"] (AT Jn):=⟨rfl,rfl,rfl,by decide +kernel,rfl,by decide +kernel,by decide +kernel⟩
noncomputable abbrev Lv:Stmt:=top 63
theorem sc_Lreads:Ae ["_law_made", "_law_kind", "_law_within", "_law_rows", "_law_begin", "_law_hands"] ["_law_made", "_law_kind", "_law_within", "_law_rows", "_law_begin"] (AT Lv):=⟨rfl,rfl,rfl,by decide +kernel,rfl,by decide +kernel,by decide +kernel⟩
noncomputable abbrev Fz:Stmt:=top 64
theorem sc_Lput_cases:Ae ["_law_n", "_law_two", "_law_kind", "_law_put", "_law_begun", "_law_cases", "_law_many", "_law_long", "_law_rows"] ["_law_n", "_law_two"] (AT Fz):=⟨rfl,rfl,rfl,by decide +kernel,rfl,by decide +kernel,by decide +kernel⟩
noncomputable abbrev F0:Stmt:=top 65
theorem sc_Lget_cases:Ae ["_law_n", "_law_two", "_law_kind", "_law_made", "_law_get", "_law_tell", "_law_begun", "_law_cases", "_law_great", "_law_wrong", "_law_told", "_law_count", "_law_k", "_law_round_again", "_law_ring"] ["_law_n", "_law_two"] (AT F0):=⟨rfl,rfl,rfl,by decide +kernel,rfl,by decide +kernel,by decide +kernel⟩
noncomputable abbrev Wc:Stmt:=top 66
theorem sc_law:Ae ["_law_script", "_law_xs", "_law_n", "_law_two", "_law_making", "_law_weaving", "_law_due", "_law_events", "_law_at", "_law_broken", "_law_found", "_law_later"] ["_law_script"] (AT Wc):=⟨rfl,rfl,rfl,by decide +kernel,rfl,by decide +kernel,by decide +kernel⟩
end
end K24
namespace Kst
open PySem L2 Mi
noncomputable def DB:D:=.int 9
noncomputable def Cf:D:=.tup [.str "let",.str "jump",.str "unless"]
noncomputable abbrev BO:Nat:=10000
noncomputable def m_number_of(cB:List D->M D)(cD:List D->M D)(cM:List D->M D):Sl->M (Fl×Sl):=
  (BV (Bl (mOp CJ (Ag 0) (mC (.int 0))) (Aq 2))
  (BV (sIf (BZ (mOp Cb (Ag 2) (mC (.str "num")))) (DL (mOp CJ (Ag 0) (mC (.int 1)))) Ax)
  (BV (sIf (BZ (mOp Cb (Ag 2) (mC (.str "var")))) (DL (mOp Io (Ag 1) (mOp CJ (Ag 0) (mC (.int 1))))) Ax)
  (BV (Bl (BS cB (BM (mOp CJ (Ag 0) (mC (.int 1))) (BM (Ag 1) AI))) (Aq 3))
  (BV (sIf (BZ (mOp Cb (Ag 2) (mC (.str "not")))) (DL (BS cD (BM (mOp Cb (Ag 3) (mC (.int 0))) AI))) Ax)
  (DL (BS cM (BM (Ag 2) (BM (Ag 3) (BM (BS cB (BM (mOp CJ (Ag 0) (mC (.int 2))) (BM (Ag 1) AI))) AI))))))))))
noncomputable def m_number_of_pair(cD:List D->M D):Sl->M (Fl×Sl):=
  (BV (sIf (BZ (mOp Cb (Ag 0) (mC (.str "+")))) (DL (BS Vw (BM (mOp A0 (Ag 1) (Ag 2)) (BM (mC DB) AI)))) Ax)
  (BV (sIf (BZ (mOp Cb (Ag 0) (mC (.str "-")))) (DL (BS Qi (BM (mOp Ea (Ag 1) (Ag 2)) (BM (mC (.int 0)) AI)))) Ax)
  (BV (sIf (BZ (mOp Cb (Ag 0) (mC (.str "=")))) (DL (BS cD (BM (mOp Cb (Ag 1) (Ag 2)) AI))) Ax)
  (BV (sIf (BZ (mOp Cb (Ag 0) (mC (.str "<")))) (DL (BS cD (BM (mOp Kv (Ag 1) (Ag 2)) AI))) Ax)
  (BV (sIf (BZ (mOp Cb (Ag 0) (mC (.str "and")))) (DL (BS cD (BM (HI (mOp L8 (Ag 1) (mC (.int 0))) (mOp L8 (Ag 2) (mC (.int 0)))) AI))) Ax)
  (DL (BS cD (BM (Tc (mOp L8 (Ag 1) (mC (.int 0))) (mOp L8 (Ag 2) (mC (.int 0)))) AI))))))))
noncomputable def m_one_where  : Sl->M (Fl×Sl):=
  (DL (mIf (BZ (Ag 0)) (mC (.int 1)) (mC (.int 0))))
noncomputable def m_followed(cU:List D->M D):Sl->M (Fl×Sl):=
  (BV (Bl (mC .non) (Aq 3))
  (BV (Bl (mC .non) (Aq 4))
  (BV (Bl (mC (.int 1)) (Aq 5))
  (BV (Bl (mC (.int 1)) (Aq 6))
  (BV (Gd BO (K4 (BZ (mOp Kv (Ag 1) (BS DE (BM (Ag 0) AI)))) (BZ (mOp (JO false) (mOp CJ (mOp CJ (Ag 0) (Ag 1)) (mC (.int 0))) (mC Cf)))) (BV (sIf (K4 (BZ (mOp Cb (Ag 1) (Ag 3))) (BZ (mOp Q2 (Ag 2) (Ag 4)))) (DL (mC .non)) Ax)
  (BV (Bl (mOp Ku (Ag 6) (mC (.int 1))) (Aq 6))
  (BV (sIf (BZ (mOp Cb (Ag 6) (mC (.int 0)))) (BV (Bl (Ag 1) (Aq 3))
  (BV (Bl (BS Iq (BM (Ag 2) AI)) (Aq 4))
  (BV (Bl (mOp C4 (mC (.int 2)) (Ag 5)) (Aq 5))
  (Bl (Ag 5) (Aq 6))))) Ax)
  (Bl (BS cU (BM (mOp CJ (Ag 0) (Ag 1)) (BM (Ag 1) (BM (Ag 2) AI)))) (Aq 1))))))
  (DL (Ag 1)))))))
noncomputable def m_row_behind(cB:List D->M D):Sl->M (Fl×Sl):=
  (BV (sIf (BZ (mOp Cb (mOp CJ (Ag 0) (mC (.int 0))) (mC (.str "jump")))) (DL (mOp CJ (Ag 0) (mC (.int 1)))) Ax)
  (BV (sIf (K4 (BZ (mOp Cb (mOp CJ (Ag 0) (mC (.int 0))) (mC (.str "unless")))) (BZ (mOp Cb (BS cB (BM (mOp CJ (Ag 0) (mC (.int 1))) (BM (Ag 2) AI))) (mC (.int 0))))) (DL (mOp CJ (Ag 0) (mC (.int 2)))) Ax)
  (BV (sIf (BZ (mOp Cb (mOp CJ (Ag 0) (mC (.int 0))) (mC (.str "let")))) (IC (Ag 2) (mOp CJ (Ag 0) (mC (.int 1))) (BS cB (BM (mOp CJ (Ag 0) (mC (.int 2))) (BM (Ag 2) AI)))) Ax)
  (DL (mOp A0 (Ag 1) (mC (.int 1)))))))
noncomputable def f_one_where:List D->M D:=Aj .all 1 1 (m_one_where)
noncomputable def f_number_of_pair:List D->M D:=Aj .all 3 3 (m_number_of_pair f_one_where)
noncomputable def f_number_of:Nat->List D->M D
 |0=>λ_=>BK
 |n+1=>Aj .all 4 2 (m_number_of (f_number_of n) f_one_where f_number_of_pair)
noncomputable def f_row_behind:List D->M D:=Aj .all 3 3 (m_row_behind (f_number_of 6))
noncomputable def f_followed:List D->M D:=Aj .all 7 3 (m_followed f_row_behind)
end Kst
namespace Mi
open PySem L2
section
variable{τ:Sl}{μ:Mh}{d:D}{ds:List D}
theorem LE(h:τ[i]?=some (some d)):Ag i τ μ=some (d,μ):=by unfold Ag;rw[h]
theorem Wv(h:0<j):BP (.int i) (.int j) μ=some (.int (i % j),μ):=by show (if 0<j then some (D.int (i % j),μ) else none)=_;rw[if_pos h]
theorem Th(h:0<j)(h2:j<1073741824):DO (.int i) (.int j) μ=some (.int (i / j),μ):=by show (if 0<j/\j<1073741824 then some (D.int (i / j),μ) else none)=_;rw[if_pos ⟨h,h2⟩]
theorem Wu(h:(-(2 ^ 64)<i/\i<2 ^ 64)∨(-(2 ^ 64)<j/\j<2 ^ 64)):C4 (.int i) (.int j) μ=some (.int (i * j),μ):=by show (if (-(2 ^ 64)<i/\i<2 ^ 64)∨(-(2 ^ 64)<j/\j<2 ^ 64) then some (D.int (i * j),μ) else none)=_;rw[if_pos h]
theorem Ww(h2:atI ds i=some d):CJ (.tup ds) (.int i) μ=some (d,μ):=by
 show bnd (Co (.tup ds)) (λds=>ixD ds i) μ=_;rw[BN (show Co (.tup ds) μ=some (ds,μ) from rfl)];unfold ixD;rw[h2];rfl
end
end Mi
local macro_rules | `(tactic| wtm_at "n")=>`(tactic| first|rfl|assumption)
local macro_rules | `(tactic| wtm_at "b")=>`(tactic| first
 |(with_reducible apply Mi.ev_nil)|(with_reducible apply Mi.ev_nilA)|(with_reducible apply Mi.ev_c)|(with_reducible apply Mi.ev_noPart)|(with_reducible apply Mi.ev_retN)
 |((with_reducible apply Mi.LE);first|rfl|assumption)
 |((with_reducible apply Mi.ev_seqR);wtm_at "b")
 |((with_reducible apply Mi.ev_seq);(wtm_at "b");(wtm_at "b"))
 |((with_reducible apply Mi.ev_asg);(wtm_at "b");(wtm_at "b"))
 |((with_reducible apply Mi.ev_name);rfl)
 |((with_reducible apply Mi.ev_sub);(wtm_at "b");(wtm_at "b");(wtm_at "b"))
 |((with_reducible apply Mi.ev_expr);wtm_at "b")
 |((with_reducible apply Mi.ev_ret);wtm_at "b")
 |((with_reducible apply Mi.ev_ifT);(wtm_at "b");(wtm_at "b"))
 |((with_reducible apply Mi.ev_ifF);(wtm_at "b");(wtm_at "b"))
 |((with_reducible apply Mi.ev_op);(wtm_at "b");(wtm_at "b");(wtm_at "b"))
 |((with_reducible apply Mi.ev_un);(wtm_at "b");(wtm_at "b"))
 |((with_reducible apply Mi.ev_disp);(wtm_at "b");(wtm_at "b"))
 |((with_reducible apply Mi.ev_consA);(wtm_at "b");(wtm_at "b"))
 |((with_reducible apply Mi.ev_meth);(wtm_at "b");(wtm_at "b");(wtm_at "b");(wtm_at "b"))
 |((with_reducible apply Mi.ev_test);wtm_at "b")
 |((with_reducible apply Mi.ev_notT);wtm_at "b")
 |((with_reducible apply Mi.ev_notF);wtm_at "b")
 |((with_reducible apply Mi.ev_andT);(wtm_at "b");(wtm_at "b"))
 |((with_reducible apply Mi.ev_andF);wtm_at "b")
 |((with_reducible apply Mi.ev_orF);(wtm_at "b");(wtm_at "b"))
 |((with_reducible apply Mi.ev_orT);wtm_at "b")
 |((with_reducible apply Mi.ev_andVT);(wtm_at "b");(wtm_at "b"))
 |((with_reducible apply Mi.ev_andVF);wtm_at "b")
 |((with_reducible apply Mi.ev_orVF);(wtm_at "b");(wtm_at "b"))
 |((with_reducible apply Mi.ev_orVT);wtm_at "b")
 |((with_reducible apply Mi.ev_notVT);wtm_at "b")
 |((with_reducible apply Mi.ev_notVF);wtm_at "b")
 |((with_reducible apply Mi.ev_chainT);(wtm_at "b");(wtm_at "b");(wtm_at "b");(wtm_at "b");(wtm_at "b"))
 |((with_reducible apply Mi.ev_chainF);(wtm_at "b");(wtm_at "b");(wtm_at "b"))
 |((with_reducible apply Mi.ev_part);wtm_at "b")
 |((with_reducible apply Mi.ev_sl);(wtm_at "b");(wtm_at "b");(wtm_at "b");(wtm_at "b"))
 |wtm_at "n")
local macro_rules | `(tactic| wtm_at "h")=>`(tactic| first|assumption|decide|omega)
local macro_rules | `(tactic| wtm_at "n")=>`(tactic| first
 |((with_reducible apply Mi.l_le);wtm_at "h")|((with_reducible apply Mi.l_leF);wtm_at "h")|((with_reducible apply Mi.l_lt);wtm_at "h")|((with_reducible apply Mi.l_ltF);wtm_at "h")|((with_reducible apply Mi.l_gt);wtm_at "h")|((with_reducible apply Mi.l_gtF);wtm_at "h")
 |(with_reducible apply Mi.l_inst_ii)|(with_reducible apply Mi.l_inst_ib)|(with_reducible apply Mi.l_inst_ss)|(with_reducible apply Mi.l_inst_tt)|(with_reducible apply Mi.l_add)|(with_reducible apply Mi.l_sub)|((with_reducible apply Mi.Wv);wtm_at "h")|((with_reducible apply Mi.Th);(wtm_at "h");(wtm_at "h"))|((with_reducible apply Mi.Wu);first|(left;omega)|(right;omega))
 |((with_reducible apply Mi.Ww);rfl)|((with_reducible apply Mi.l_ixL);rfl)|((with_reducible apply Mi.l_ixRef);(first|assumption|rfl);(rfl))|((with_reducible apply Mi.l_set);(first|assumption|rfl);(rfl)))
namespace Mi
open PySem L2
def WP{α:Type}(m:M α)(μ:Mh)(Q:α->Mh->Prop):Prop:=∃a μ',m μ=some (a,μ')/\Q a μ'
section
variable{α β:Type}{m:M α}{f:α->M β}{μ μ':Mh}{Q Q':α->Mh->Prop}{R:β->Mh->Prop}{a:α}
theorem wp_of(h:m μ=some (a,μ'))(q:Q a μ'):WP m μ Q:=⟨a,μ',h,q⟩
theorem BA(h:WP m μ Q)(k:∀a μ',Q a μ'->Q' a μ'):WP m μ Q':=by
 obtain⟨a,μ',e,q⟩:=h;exact⟨a,μ',e,k a μ' q⟩
theorem A9(h:WP m μ λa μ1=>WP (f a) μ1 R):WP (bnd m f) μ R:=by
 obtain⟨a,μ1,e,b,μ2,e2,q⟩:=h;exact⟨b,μ2,by rw[BN e];exact e2,q⟩
theorem Bn(q:Q a μ):WP (ret a) μ Q:=⟨a,μ,rfl,q⟩
end
section
variable{τ τ1:Sl}{μ μ1:Mh}{d x y:D}{ds:List D}{ma mb:Sl->M D}{ra:Sl->M (List D)}{tc tb:Sl->M Bool}{m1 m2:Sl->M (Fl×Sl)}{g:D->D->M D}{QD:D->Mh->Prop}{QB:Bool->Mh->Prop}{QL:List D->Mh->Prop}{QS:Fl×Sl->Mh->Prop}{i j:Int}
theorem Uh{i:Nat}(h:τ[i]?=some (some d))(q:QD d μ):WP (Ag i τ) μ QD:=wp_of (LE h) q
theorem ac(q:QD d μ):WP (mC d τ) μ QD:=⟨d,μ,rfl,q⟩
theorem Yx(h:WP (ma τ) μ λx μ1=>WP (mb τ) μ1 λy μ2=>WP (g x y) μ2 QD):WP (mOp g ma mb τ) μ QD:=A9 (BA h λ_ _ z=>A9 z)
theorem Yw(h:WP (ma τ) μ λx μ1=>WP (u x) μ1 QD):WP (mUn u ma τ) μ QD:=A9 h
theorem Ur(h:WP (ra τ) μ λds μ1=>WP (f ds) μ1 QD):WP (BS f ra τ) μ QD:=A9 h
theorem Uk(q:QL [] μ):WP (AI τ) μ QL:=⟨[],μ,rfl,q⟩
theorem Rm(h:WP (ma τ) μ λx μ1=>WP (ra τ) μ1 λds μ2=>QL (x::ds) μ2):WP (BM ma ra τ) μ QL:=A9 (BA h λ_ _ z=>A9 (BA z λ_ _ z=>Bn z))
theorem XQ(h:WP (mc τ) μ λb μ1=>(b=true->WP (ma τ) μ1 QD)/\(b=false->WP (mb τ) μ1 QD)):WP (mIf mc ma mb τ) μ QD:=A9 (BA h λb _ z=>by cases b;exact z.2 rfl;exact z.1 rfl)
theorem Ug(h:WP (ma τ) μ λd μ1=>∃b,d=.bl b/\QB b μ1):WP (BZ ma τ) μ QB:=A9 (BA h λ_ _ ⟨b,e,q⟩=>by subst e;exact Bn q)
noncomputable def Ys(m:M Bool)(QB:Bool->Mh->Prop):Bool->Mh->Prop
 |true,μ=>WP m μ QB
 |false,μ=>QB false μ
theorem XV(h:WP (tc τ) μ (Ys (tb τ) QB)):WP (K4 tc tb τ) μ QB:=A9 (BA h λb _ z=>by cases b;exact Bn z;exact z)
theorem Uu(h:WP (ma τ) μ λd μ1=>∃b,d=.bl b/\(b=true->WP (mb τ) μ1 QD)/\(b=false->QD (.bl false) μ1)):WP (HI ma mb τ) μ QD:=A9 (BA h λd μ1 ⟨b,e,z⟩=>by
 subst e;refine A9 (Bn ?_);cases b
 ·exact Bn (z.2 rfl)
 ·exact z.1 rfl)
noncomputable def Rz(m2:Sl->M (Fl×Sl))(QS:Fl×Sl->Mh->Prop):Fl×Sl->Mh->Prop
 |(.next,τ1),μ1=>WP (m2 τ1) μ1 QS
 |r,μ1=>QS r μ1
theorem Rr(h:WP (m2 τ1) μ1 QS):Rz m2 QS (.next,τ1) μ1:=h
theorem XW(h:QS (.rt d,τ1) μ1):Rz m2 QS (.rt d,τ1) μ1:=h
theorem XJ(h:WP (m1 τ) μ (Rz m2 QS)):WP (BV m1 m2 τ) μ QS:=A9 (BA h λr _ z=>by
 obtain⟨fl,τ1⟩:=r;cases fl
 ·exact z
 ·exact Bn z
 ·exact Bn z
 ·exact Bn z)
theorem Ut{i:Nat}(h:WP (ma τ) μ λd μ1=>QS (.next,τ.set i (some d)) μ1):WP (Bl ma (Aq i) τ) μ QS:=A9 (BA h λ_ _ q=>A9 (Bn (Bn q)))
theorem XL(h:WP (ma τ) μ λd μ1=>QS (.rt d,τ) μ1):WP (DL ma τ) μ QS:=A9 (BA h λ_ _ q=>Bn q)
theorem Uq(h:WP (ma τ) μ λ_ μ1=>QS (.next,τ) μ1):WP (A7 ma τ) μ QS:=A9 (BA h λ_ _ q=>Bn q)
theorem XN(q:QS (.next,τ) μ):WP (Ax τ) μ QS:=⟨_,μ,rfl,q⟩
noncomputable def ifK(m1 m2:Sl->M (Fl×Sl))(τ:Sl)(QS:Fl×Sl->Mh->Prop):Bool->Mh->Prop
 |true,μ=>WP (m1 τ) μ QS
 |false,μ=>WP (m2 τ) μ QS
theorem OX(h:WP (m1 τ) μ QS):ifK m1 m2 τ QS true μ:=h
theorem OY(h:WP (m2 τ) μ QS):ifK m1 m2 τ QS false μ:=h
theorem Yz(h:WP (tc τ) μ (ifK m1 m2 τ QS)):WP (sIf tc m1 m2 τ) μ QS:=A9 (BA h λb _ z=>by cases b;exact z;exact z)
theorem XS(h:WP (src τ) μ λds μ1=>WP (CB bf m1 ds τ) μ1 QS):WP (DM src bf m1 τ) μ QS:=A9 h
noncomputable def Te(I:Sl->Mh->Prop)(QS:Fl×Sl->Mh->Prop):Fl×Sl->Mh->Prop
 |(.next,τ),μ=>I τ μ
 |(.cont,τ),μ=>I τ μ
 |(.brk,τ),μ=>QS (.next,τ) μ
 |(.rt d,τ),μ=>QS (.rt d,τ) μ
theorem LY(h:I τ μ):Te I QS (.next,τ) μ:=h
theorem NJ(I:List D->Sl->Mh->Prop)(step:∀x xs τ μ,I (x::xs) τ μ->WP (bf x τ) μ λτ1 μ1=>WP (m1 τ1) μ1 (Te (I xs) QS))(fin:∀τ μ,I [] τ μ->QS (.next,τ) μ):∀{ds:List D} {τ:Sl} {μ:Mh},I ds τ μ->WP (CB bf m1 ds τ) μ QS
 |[],τ,μ,h=>Bn (fin τ μ h)
 |x::xs,τ,μ,h=>A9 (BA (step x xs τ μ h) λτ1 μ1 z=>A9 (BA z λr μ2 z=>by
   obtain⟨fl,τ2⟩:=r;cases fl
   ·exact NJ I step fin z
   ·exact Bn z
   ·exact NJ I step fin z
   ·exact Bn z))
theorem Rn{QT:Sl->Mh->Prop}{i:Nat}(q:QT (τ.set i (some d)) μ):WP (Aq i d τ) μ QT:=⟨_,μ,rfl,q⟩
theorem Uv(q:QD (.int (i+j)) μ):WP (A0 (.int i) (.int j)) μ QD:=⟨_,μ,rfl,q⟩
theorem XI(q:QD (.int (i-j)) μ):WP (Ea (.int i) (.int j)) μ QD:=⟨_,μ,rfl,q⟩
theorem XO(h:0<j)(q:QD (.int (i % j)) μ):WP (BP (.int i) (.int j)) μ QD:=wp_of (Wv h) q
theorem Uo(h:0<j)(h2:j<1073741824)(q:QD (.int (i / j)) μ):WP (DO (.int i) (.int j)) μ QD:=wp_of (Th h h2) q
theorem Hh(h:(-(2 ^ 64)<i/\i<2 ^ 64)∨(-(2 ^ 64)<j/\j<2 ^ 64))(q:QD (.int (i * j)) μ):WP (C4 (.int i) (.int j)) μ QD:=wp_of (Wu h) q
theorem Yy(q:QD (.bl (decide (i<j))) μ):WP (Kv (.int i) (.int j)) μ QD:=⟨_,μ,rfl,q⟩
theorem Y0(q:QD (.bl (decide (j<=i))) μ):WP (QQ (.int i) (.int j)) μ QD:=⟨_,μ,rfl,q⟩
theorem NI(q:QD (.bl (i==j)) μ):WP (Cb (.int i) (.int j)) μ QD:=⟨_,μ,rfl,q⟩
theorem NH(q:QD (.bl (!(i==j))) μ):WP (L8 (.int i) (.int j)) μ QD:=⟨_,μ,rfl,q⟩
theorem Ul(h:ds.length<=sizeLine)(q:QD (.ref μ.length) (μ++[.lst ds])):WP (FC ds) μ QD:=by
 refine wp_of (a:=.ref μ.length) (μ':=μ++[.lst ds]) ?_ q;unfold FC;rw[BN (Tf h _)]
theorem Kd(h2:atI ds i=some d)(q:QD d μ):WP (CJ (.tup ds) (.int i)) μ QD:=wp_of (Ww h2) q
theorem Ui(h:WP (ra τ) μ λds μ1=>∃j:Nat,ds=[.int j]/\j<1000000/\QL ((List.range j).map λ(i:Nat)=>.int (i:Int)) μ1):WP (GC ra τ) μ QL:=A9 (BA h λds μ1 ⟨j,e,hj,q⟩=>by
 subst e;refine wp_of (a:=L3 0 j) (μ':=μ1) ?_ ?_
 ·have hj2:-(2 ^ 62)<=(j:Int)/\(j:Int)<2 ^ 62:=⟨by omega,by omega⟩;unfold SZ;simp only[];rw[if_pos hj2]
 ·have e:L3 0 (j:Int)=(List.range j).map λ(i:Nat)=>.int (i:Int):=by
   unfold L3;rw[show ((j:Int)-0).toNat=j by omega];congr 1
   funext i
   rw[Int.zero_add]
  rw[e];exact q)
theorem Um(q:QD (.int ds.length) μ):WP (DE [.tup ds]) μ QD:=⟨_,μ,rfl,q⟩
theorem OV{gs:Mh}{i:Nat}(ht:τ[i]?=some (some (.ref gs.length)))(hs:ds.length<sizeLine)(h:WP (ra τ) (gs++[.lst ds]) λes μ1=>∃gs' y,es=[y]/\μ1=gs'++[.lst ds]/\gs'.length=gs.length/\QD .non (gs'++[.lst (ds++[y])])):WP (Av Bk (Ag i) ra τ) (gs++[.lst ds]) QD:=by
 unfold Av;refine A9 (wp_of (LE ht) ?_);have hg:Fh (.ref gs.length) (gs++[.lst ds])=some ((),gs++[.lst ds]):=by
  unfold Fh;rw[BN (show DC (.ref gs.length) (gs++[.lst ds])=some (ds,gs++[.lst ds]) from by show (match (gs++[MO.lst ds])[gs.length]? with|some (.lst ds')=>some (ds',gs++[MO.lst ds])|_=>none)=some (ds,gs++[MO.lst ds]);rw[AAS (AAF _)];simp)];rfl
 refine A9 (wp_of hg (A9 (BA h ?_)));rintro es μ1 ⟨gs',y,rfl,rfl,hl,q⟩;refine wp_of (a:=.non) (μ':=gs'++[.lst (ds++[y])]) ?_ q;show NP gs.length (λds=>if ds.length<sizeLine then some (.non,ds++[y]) else none) (gs'++[.lst ds])=_;unfold NP;rw[←hl,AAS (AAF _)];simp[hs]
end
mutual
def Pz:D->Prop
 | .non=>True
 | .int _=>True
 | .str x=>PyData.strOk x=true
 | .tup ds=>PzL ds
 | .lst ds=>PzL ds
 |_=>False
def PzL:List D->Prop
 |[]=>True
 |d::ds=>Pz d/\PzL ds
end
mutual
def dpt:D->Nat
 | .tup ds=>Q0 ds+1
 | .lst ds=>Q0 ds+1
 |_=>0
def Q0:List D->Nat
 |[]=>0
 |d::ds=>max (dpt d) (Q0 ds)
end
mutual
def toZ:D->PyData
 | .int i=>.int i
 | .str x=>.str x
 | .tup ds=>.tuple (DD ds)
 | .lst ds=>.list (DD ds)
 |_=>.none
def DD:List D->List PyData
 |[]=>[]
 |d::ds=>toZ d::DD ds
end
mutual
theorem NT(μ:Mh):∀{d:D},Pz d->toP μ d=some (toZ d)
 | .non,_=>rfl
 | .int _,_=>rfl
 | .str _,_=>rfl
 | .tup ds,h=>by unfold Pz at h;unfold toP toZ;rw[Kh μ h];rfl
 | .lst ds,h=>by unfold Pz at h;unfold toP toZ;rw[Kh μ h];rfl
 | .bl _,h | .ty _,h | .scr _,h | .ref _,h=>by unfold Pz at h;exact h.elim
theorem Kh(μ:Mh):∀{ds:List D},PzL ds->Fb μ ds=some (DD ds)
 |[],_=>by unfold Fb DD;rfl
 |d::ds,h=>by
  unfold PzL at h;unfold Fb DD;rw[NT μ h.1,Kh μ h.2];rfl
end
mutual
theorem Kg:∀{d:D},Pz d->PyData.canLay0 (toZ d)=true/\PyData.depth (toZ d)=dpt d
 | .non,_=>⟨rfl,rfl⟩
 | .int _,_=>⟨rfl,rfl⟩
 | .str _,h=>by unfold Pz at h;exact⟨h,rfl⟩
 | .tup ds,h=>by
  unfold Pz at h;obtain⟨h1,h2⟩:=Hn h;unfold toZ dpt;exact⟨h1,by show PyData.depthAll (DD ds)+1=_;rw[h2]⟩
 | .lst ds,h=>by
  unfold Pz at h;obtain⟨h1,h2⟩:=Hn h;unfold toZ dpt;exact⟨h1,by show PyData.depthAll (DD ds)+1=_;rw[h2]⟩
 | .bl _,h | .ty _,h | .scr _,h | .ref _,h=>by unfold Pz at h;exact h.elim
theorem Hn:∀{ds:List D},PzL ds->PyData.canLayAll0 (DD ds)=true/\PyData.depthAll (DD ds)=Q0 ds
 |[],_=>by unfold DD Q0;exact⟨rfl,rfl⟩
 |d::ds,h=>by
  unfold PzL at h;obtain⟨h1,h2⟩:=Kg h.1;obtain⟨h3,h4⟩:=Hn h.2;unfold DD Q0;refine⟨?_,?_⟩
  ·show (PyData.canLay0 (toZ d)&&PyData.canLayAll0 (DD ds))=true;rw[h1,h3];rfl
  ·show max (PyData.depth (toZ d)) (PyData.depthAll (DD ds))=_;rw[h2,h4]
end
mutual
theorem eqZ:∀{a b:D},Pz a->Pz b->(PyData.eqv (toZ a) (toZ b)=true↔a=b)
 | .non,b,_,hb=>by
  cases b<;>first|exact⟨λ_=>rfl,λ_=>rfl⟩|(unfold Pz at hb;exact hb.elim)|(unfold toZ;exact⟨λz=>(by cases z),λz=>(by cases z)⟩)
 | .int i,b,_,hb=>by
  cases b with
  |int j=>exact⟨λz=>by have:(i==j)=true:=z;rw[beq_iff_eq.mp this],λz=>by cases z;show (i==i)=true;simp⟩
  |_=>first|(unfold Pz at hb;exact hb.elim)|(unfold toZ;exact⟨λz=>(by cases z),λz=>(by cases z)⟩)
 | .str i,b,_,hb=>by
  cases b with
  |str j=>exact⟨λz=>by have:(i==j)=true:=z;rw[beq_iff_eq.mp this],λz=>by cases z;show (i==i)=true;simp⟩
  |_=>first|(unfold Pz at hb;exact hb.elim)|(unfold toZ;exact⟨λz=>(by cases z),λz=>(by cases z)⟩)
 | .tup xs,b,ha,hb=>by
  cases b with
  |tup ys=>
   unfold Pz at ha hb;unfold toZ;have:=Yk ha hb;exact⟨λz=>by rw[this.mp z],λz=>by cases z;exact this.mpr rfl⟩
  |_=>first|(unfold Pz at hb;exact hb.elim)|(unfold toZ;exact⟨λz=>(by cases z),λz=>(by cases z)⟩)
 | .lst xs,b,ha,hb=>by
  cases b with
  |lst ys=>
   unfold Pz at ha hb;unfold toZ;have:=Yk ha hb;exact⟨λz=>by rw[this.mp z],λz=>by cases z;exact this.mpr rfl⟩
  |_=>first|(unfold Pz at hb;exact hb.elim)|(unfold toZ;exact⟨λz=>(by cases z),λz=>(by cases z)⟩)
 | .bl _,_,h,_ | .ty _,_,h,_ | .scr _,_,h,_ | .ref _,_,h,_=>by unfold Pz at h;exact h.elim
theorem Yk:∀{as bs:List D},PzL as->PzL bs->(PyData.eqvAll (DD as) (DD bs)=true↔as=bs)
 |[],[],_,_=>by unfold DD;exact⟨λ_=>rfl,λ_=>rfl⟩
 |[],_::_,_,_=>by unfold DD;exact⟨λz=>(by cases z),λz=>(by cases z)⟩
 |_::_,[],_,_=>by unfold DD;exact⟨λz=>(by cases z),λz=>(by cases z)⟩
 |a::as,b::bs,ha,hb=>by
  unfold PzL at ha hb;unfold DD;have h1:=eqZ ha.1 hb.1;have h2:=Yk ha.2 hb.2;show (PyData.eqv (toZ a) (toZ b)&&PyData.eqvAll (DD as) (DD bs))=true↔_;rw[Bool.and_eq_true,h1,h2];exact⟨λ⟨x,y⟩=>by rw[x,y],λz=>by cases z;exact⟨rfl,rfl⟩⟩
end
section
variable{μ:Mh}{a b:D}{QD:D->Mh->Prop}
theorem Yl(ha:Pz a)(hb:Pz b)(da:dpt a<=64)(db:dpt b<=64):∃e:Bool,(e=true↔a=b)/\Eb neg a b μ=some (.bl (if neg then !e else e),μ):=by
 refine⟨PyData.eqv (toZ a) (toZ b),eqZ ha hb,?_⟩;obtain⟨a1,a2⟩:=Kg ha;obtain⟨b1,b2⟩:=Kg hb;have s1:SeqAt.shaped (toZ a)=true:=by
  show (PyData.canLay0 (toZ a)&&decide (PyData.depth (toZ a)<=64))=true;rw[a1,AAP (by omega)];rfl
 have s2:SeqAt.shaped (toZ b)=true:=by
  show (PyData.canLay0 (toZ b)&&decide (PyData.depth (toZ b)<=64))=true;rw[b1,AAP (by omega)];rfl
 have e1:Ki μ a=some (toZ a):=by
  cases a with
  |ref n=>unfold Pz at ha;exact ha.elim
  |_=>exact NT μ ha
 have e2:Ki μ b=some (toZ b):=by
  cases b with
  |ref n=>unfold Pz at hb;exact hb.elim
  |_=>exact NT μ hb
 unfold Eb;rw[e1,e2];exact if_pos ⟨s1,s2⟩
theorem XT(ha:Pz a)(hb:Pz b)(da:dpt a<=64)(db:dpt b<=64)(q:∀e:Bool,(e=true↔a=b)->QD (.bl e) μ):WP (Cb a b) μ QD:=by
 obtain⟨e,h1,h2⟩:=Yl (μ:=μ) (neg:=false) ha hb da db;exact wp_of h2 (q e h1)
end
end Mi
namespace Mi
section
variable{b:Bool}{i:Int}
theorem Rq{P:Bool->Prop}(h:P b):∃b',D.bl b=D.bl b'/\P b':=⟨b,rfl,h⟩
theorem OW{n:Nat}{P:Nat->Prop}(e:i=n)(hn:n<1000000)(h:P n):∃j:Nat,[D.int i]=[D.int j]/\j<1000000/\P j:=⟨n,by rw[e],hn,h⟩
end
end Mi
local macro_rules | `(tactic| wtm_at "j")=>`(tactic| first|assumption|decide|omega|exact AAE rfl)
local macro_rules | `(tactic| wtm_at "l")=>`(tactic| first
 |(with_reducible apply Mi.XJ)|(with_reducible apply Mi.Rr)|(with_reducible apply Mi.Ut)|(with_reducible apply Mi.XL)|(with_reducible apply Mi.XW)|(with_reducible apply Mi.Uq)|(with_reducible apply Mi.XN)|(with_reducible apply Mi.Yz)|(with_reducible apply Mi.OX)|(with_reducible apply Mi.OY)|(with_reducible apply Mi.Yx)|(with_reducible apply Mi.ac)|((with_reducible apply Mi.Uh);rfl)|(with_reducible apply Mi.Rm)|(with_reducible apply Mi.Uk)|(with_reducible apply Mi.Ur)|(with_reducible apply Mi.Yw)
 |(with_reducible apply Mi.Ug)|(with_reducible apply Mi.Rq)|(with_reducible apply Mi.wq_not)|(with_reducible apply Mi.XV)|(with_reducible apply Mi.wq_or)|(with_reducible apply Mi.XS)|(with_reducible apply Mi.wq_comp)|(with_reducible apply Mi.wq_src)|(with_reducible apply Mi.wq_seqT)|(with_reducible apply Mi.wq_seqL)|(with_reducible apply Mi.Ui)|(with_reducible apply Mi.wq_sl2)|(with_reducible apply Mi.wq_noPart)|(with_reducible apply Mi.wq_part)|(with_reducible apply Mi.wkk_int)
 |(with_reducible apply Mi.Uv)|(with_reducible apply Mi.wq_add)|(with_reducible apply Mi.XI)|(with_reducible apply Mi.Yy)|(with_reducible apply Mi.wq_gt)|(with_reducible apply Mi.Y0)|(with_reducible apply Mi.NI)|(with_reducible apply Mi.NH)|(with_reducible apply Mi.wq_isF)|(with_reducible apply Mi.wq_isT)|(with_reducible apply Mi.wq_intB)|(with_reducible apply Mi.wq_neB)|(with_reducible apply Mi.wq_tupT)|(with_reducible apply Mi.wq_tupL)|(with_reducible apply Mi.Um)|(with_reducible apply Mi.wq_true)|(with_reducible apply Mi.Rn)
 |((with_reducible apply Mi.XO);(wtm_at "j"))|((with_reducible apply Mi.Uo);(wtm_at "j");(wtm_at "j"))|((with_reducible apply Mi.wq_newT);(wtm_at "j"))|((with_reducible apply Mi.wq_newL);(wtm_at "j"))|((with_reducible apply Mi.Ul);(wtm_at "j"))|((with_reducible apply Mi.Kd);rfl)|((with_reducible apply Mi.wq_ixL);rfl))
local macro_rules | `(tactic| wtm_at "e")=>`(tactic| repeat wtm_at "l")
namespace Mi
open PySem L2
section
variable{μ:Mh}{x y:D}{QD:D->Mh->Prop}
theorem Rl{x y:Str}(h1:PyData.strOk x=true)(h2:PyData.strOk y=true)(q:QD (.bl (x==y)) μ):WP (Cb (.str x) (.str y)) μ QD:=by
 refine XT (by unfold Pz;exact h1) (by unfold Pz;exact h2) (by show 0<=64;omega) (by show 0<=64;omega) λe he=>?_;have:e=(x==y):=by
  rw[Bool.eq_iff_iff,he,beq_iff_eq];exact⟨λz=>by cases z;rfl,λz=>by rw[z]⟩
 rw[this];exact q
end
theorem XM(h:0<=j/\j<=1000000/\i.natAbs<2 ^ 64)(q:QD (.int (i ^ j.toNat)) μ):WP (Si (.int i) (.int j)) μ QD:=by
 refine wp_of (a:=.int (i ^ j.toNat)) (μ':=μ) ?_ q;exact if_pos h
theorem Ro(I:Nat->Sl->Mh->Prop)(step:∀(j:Nat) τ μ,j<m->I j τ μ->WP (bf (.int (j:Int)) τ) μ λτ1 μ1=>WP (m1 τ1) μ1 (Te (I (j+1)) QS))(last:∀τ μ,I m τ μ->QS (.next,τ) μ)(h:I 0 τ μ):WP (CB bf m1 ((List.range m).map λ(i:Nat)=>D.int (i:Int)) τ) μ QS:=by
 refine NJ (I:=λBG τ μ=>∃j,j<=m/\BG=(List.range' j (m-j)).map (λ(i:Nat)=>D.int (i:Int))/\I j τ μ) ?_ ?_ ⟨0,AAk _,by rw[Nat.sub_zero,←List.range_eq_range'],h⟩
 ·rintro x xs τ μ ⟨j,hj,hr,hI⟩;have hlt:j<m:=by
   rcases Nat.lt_or_ge j m with z|z
   ·exact z
   ·rw[show m-j=0 by omega] at hr;cases hr
  rw[show m-j=(m-(j+1))+1 by omega,List.range'_succ,AAX] at hr;obtain⟨e3,e4⟩:=List.cons.inj hr;subst e3;refine BA (step j τ μ hlt hI) λτ1 μ1 z=>BA z λr μ2 z2=>?_;obtain⟨fl,τ2⟩:=r;cases fl
  ·exact⟨j+1,hlt,e4,z2⟩
  ·exact z2
  ·exact⟨j+1,hlt,e4,z2⟩
  ·exact z2
 ·rintro τ μ ⟨j,hj,hr,hI⟩;have hj':j=m:=by
   have:=congrArg List.length hr;simp at this;omega
  subst hj';exact last τ μ hI
theorem Br(hl:Nat.beq ds.length ps=true)(h:WP (mb (CD N ds)) μ λr μ2=>∃d τ2,r=(.rt d,τ2)/\QD d μ2):WP (Aj .all N ps mb ds) μ QD:=by
 obtain⟨r,μ2,e,d,τ2,rfl,q⟩:=h;refine wp_of (a:=d) (μ':=μ2) ?_ q;unfold Aj;rw[hl,e];rfl
theorem Rp(hl:Nat.beq ds.length ps=true)(h:WP (mb (CD N ds)) [] λr μ2=>∃j τ2 es,r=(.rt (.ref j),τ2)/\μ2[j]?=some (.lst es)/\D4 0 es=true/\QD (.ref 0) [.lst es]):WP (KN N ps mb ds) [] QD:=by
 obtain⟨r,μ2,e,j,τ2,es,rfl,h1,h2,q⟩:=h;refine wp_of (a:=.ref 0) (μ':=[.lst es]) ?_ q;unfold KN;rw[hl,e];show (match Nat.ble (List.length ([]:Mh)) j with|true=>(match μ2[j]? with|some (.lst es)=>(match D4 (List.length ([]:Mh)) es with|true=>(match Bj 0 0 μ2 with|some r=>some (D.ref 0,r++[MO.lst es])|none=>none)|false=>none)|_=>none)|false=>none)=_;rw[show Nat.ble (List.length ([]:Mh)) j=true from Nat.ble_eq.mpr (AAk _),h1];show (match D4 0 es with|true=>(match Bj 0 0 μ2 with|some r=>some (D.ref 0,r++[MO.lst es])|none=>none)|false=>none)=_;rw[h2];rfl
theorem G1:∀l:List Int,D4 k (l.map D.int)=true
 |[]=>rfl
 |_::l=>G1 l
theorem P4(hl:Nat.beq ds.length ps=true)(h:WP (mb (CD N ds)) [] λr _=>r.1=.rt (.bl true)):WP (Aj .drop N ps mb ds) [] λd _=>d=.bl true:=by
 obtain⟨⟨fl,τ2⟩,μ2,e,rfl⟩:=h;refine wp_of (a:=.bl true) (μ':=[]) ?_ rfl;unfold Aj;rw[hl,e];rfl
end Mi
namespace K21
open PySem L2 Mi
inductive Ex where
 |num (n:Int)
 |var (x:Str)
 |neg (e:Ex)
 |bin (w:Str) (a b:Ex)
def Ex.toD:Ex->D
 | .num n=>.tup [.str "num",.int n]
 | .var x=>.tup [.str "var",.str x]
 | .neg e=>.tup [.str "not",e.toD]
 | .bin w a b=>.tup [.str w,a.toD,b.toD]
noncomputable abbrev FE:List Str:=["+", "-", "=", "<", "and", "or", "="]
inductive Rw where
 |put (b:Str) (e:Ex)
 |get (x b:Str)
 |lett (x:Str) (e:Ex)
 |unl (e:Ex) (t:Int)
 |jump (t:Int)
 |tell (e:Ex)
 |fin
def Rw.toD:Rw->D
 | .put b e=>.tup [.str "put",.str b,e.toD]
 | .get x b=>.tup [.str "get",.str x,.str b]
 | .lett x e=>.tup [.str "let",.str x,e.toD]
 | .unl e t=>.tup [.str "unless",e.toD,.int t]
 | .jump t=>.tup [.str "jump",.int t]
 | .tell e=>.tup [.str "tell",e.toD]
 | .fin=>.tup [.str "done"]
end K21
namespace Mi
open PySem L2
end Mi
namespace K21
open PySem L2 Mi
end K21
namespace K41
open PySem L2 Mi
end K41
namespace K41
open PySem L2 Mi Ht Nk Hs
end K41
namespace Mi
open PySem L2
end Mi
namespace K41
open PySem L2 Mi Ht Nk Hs
end K41
namespace K21
open PySem L2 Mi
end K21
namespace Mi
open PySem L2
end Mi
namespace K21
open PySem L2 Mi
end K21
namespace Mi
open PySem L2
end Mi
namespace K21
open PySem L2 Mi
end K21
namespace K21
open PySem L2 Mi Xt
end K21
namespace K21
open PySem L2 Mi
end K21
namespace Mi
open PySem L2
end Mi
namespace K21
open PySem L2 Mi
end K21
namespace Mi
open PySem L2
end Mi
namespace K21
open PySem L2 Mi
end K21
namespace Mi
open PySem L2
section
variable{τ:Sl}{μ μ1:Mh}{d x y:D}{ma mb:Sl->M D}{QD:D->Mh->Prop}{QB:Bool->Mh->Prop}{QS:Fl×Sl->Mh->Prop}{i j:Int}
theorem Uf{x y:Str}(h1:PyData.strOk x=true)(h2:PyData.strOk y=true)(h:(x==y)=true)(q:QD (.bl true) μ):WP (Cb (.str x) (.str y)) μ QD:=Rl h1 h2 (by rw[h];exact q)
theorem HU{x y:Str}(h1:PyData.strOk x=true)(h2:PyData.strOk y=true)(h:(x==y)=false)(q:QD (.bl false) μ):WP (Cb (.str x) (.str y)) μ QD:=Rl h1 h2 (by rw[h];exact q)
theorem Rc(h:i=j)(q:QD (.bl true) μ):WP (Cb (.int i) (.int j)) μ QD:=NI (by rw[beq_iff_eq.mpr h];exact q)
theorem Re(h:i≠j)(q:QD (.bl false) μ):WP (Cb (.int i) (.int j)) μ QD:=NI (by rw[AAf.mpr h];exact q)
theorem RY(h:i≠j)(q:QD (.bl true) μ):WP (L8 (.int i) (.int j)) μ QD:=NH (by rw[AAf.mpr h];exact q)
theorem RZ(h:i=j)(q:QD (.bl false) μ):WP (L8 (.int i) (.int j)) μ QD:=NH (by rw[beq_iff_eq.mpr h];exact q)
theorem Ri(h:WP m μ QB):Ys m QB true μ:=h
theorem Rj(h:QB false μ):Ys m QB false μ:=h
noncomputable def YT(m1 m2:M D)(QD:D->Mh->Prop):Bool->Mh->Prop
 |true,μ=>WP m1 μ QD
 |false,μ=>WP m2 μ QD
theorem Ue(h:WP (mc τ) μ (YT (ma τ) (mb τ) QD)):WP (mIf mc ma mb τ) μ QD:=XQ (BA h λb _ z=>by cases b;exact⟨λe=>(nomatch e),λ_=>z⟩;exact⟨λ_=>z,λe=>(nomatch e)⟩)
theorem Ra(h:WP m1 μ QD):YT m1 m2 QD true μ:=h
theorem Rb(h:WP m2 μ QD):YT m1 m2 QD false μ:=h
noncomputable def Ua(m:M D)(QD:D->Mh->Prop):D->Mh->Prop
 | .bl true,μ=>WP m μ QD
 | .bl false,μ=>QD (.bl false) μ
 |_,_=>False
theorem Rh(h:WP (ma τ) μ (Ua (mb τ) QD)):WP (HI ma mb τ) μ QD:=Uu (BA h λd μ1 z=>by
 match d,z with
 | .bl true,z=>exact⟨true,rfl,λ_=>z,λe=>(nomatch e)⟩
 | .bl false,z=>exact⟨false,rfl,λe=>(nomatch e),λ_=>z⟩)
theorem Px(h:WP m μ QD):Ua m QD (.bl true) μ:=h
theorem Py(h:QD (.bl false) μ):Ua m QD (.bl false) μ:=h
noncomputable def YG(m:M D)(QD:D->Mh->Prop):D->Mh->Prop
 | .bl true,μ=>QD (.bl true) μ
 | .bl false,μ=>WP m μ QD
 |_,_=>False
theorem Ud(h:WP (ma τ) μ (YG (mb τ) QD)):WP (Tc ma mb τ) μ QD:=by
 obtain⟨d,μ1,e,z⟩:=h;unfold Tc
 match d,e,z with
 | .bl true,e,z=>exact⟨.bl true,μ1,by rw[BN e];rfl,z⟩
 | .bl false,e,z=>
  obtain⟨d2,μ2,e2,q⟩:=z;exact⟨d2,μ2,by rw[BN e];exact e2,q⟩
theorem RV(h:QD (.bl true) μ):YG m QD (.bl true) μ:=h
theorem RX(h:WP m μ QD):YG m QD (.bl false) μ:=h
theorem Rg(h:μ[n]?=some (.dK l))(hk:K8 y=some k)(hv:Hl l k=some d)(q:QD d μ):WP (Io (.ref n) y) μ QD:=by
 refine wp_of (a:=d) (μ':=μ) ?_ q;unfold Io;rw[BN (show Bq (.ref n) μ=some ((n,l),μ) from by unfold Bq;dsimp only;rw[h])];show ((K8 y).bind (Hl l)).map _=_;rw[hk,Option.bind_some,hv];rfl
theorem Rf(h:WP (mv τ) μ λv μ1=>WP (mo τ) μ1 λx μ2=>WP (mi τ) μ2 λy μ3=>∃n l k,x=.ref n/\μ3[n]?=some (.dK l)/\K8 y=some k/\l.length<1000/\QS (.next,τ) (μ3.set n (.dK (JP l k v)))):WP (IC mo mi mv τ) μ QS:=by
 unfold IC;refine A9 (BA h λv μ1 h=>A9 (BA h λx μ2 h=>A9 (BA h λy μ3 ⟨n,l,k,e1,e2,e3,e4,q⟩=>?_)));subst e1;refine A9 (wp_of (show Bq (.ref n) μ3=some ((n,l),μ3) from by unfold Bq;dsimp only;rw[e2]) ?_);refine⟨_,_,?_,q⟩;rw[e3];dsimp only;rw[if_pos (by rw[sizeLine_eq];omega)]
end
end Mi
local macro_rules | `(tactic| wtm_at "f")=>`(tactic| (decide +kernel))
local macro_rules | `(tactic| wtm_at "g")=>`(tactic| first|omega|(focus (simp;done)))
local macro_rules | `(tactic| wtm_at "o")=>`(tactic| first
 |((with_reducible apply Mi.HU);(wtm_at "f");(wtm_at "f");(wtm_at "f"))|((with_reducible apply Mi.Uf);(wtm_at "f");(wtm_at "f");(wtm_at "f"))|((with_reducible apply Mi.wqa_neT);(wtm_at "f");(wtm_at "f");(wtm_at "f"))|((with_reducible apply Mi.wqa_neF);(wtm_at "f");(wtm_at "f");(wtm_at "f"))
 |((with_reducible apply Mi.Rc);(wtm_at "g"))|((with_reducible apply Mi.Re);(wtm_at "g"))|((with_reducible apply Mi.RY);(wtm_at "g"))|((with_reducible apply Mi.RZ);(wtm_at "g"))|((with_reducible apply Mi.wqa_ltT);(wtm_at "g"))|((with_reducible apply Mi.wqa_ltF);(wtm_at "g"))|((with_reducible apply Mi.wqa_gtT);(wtm_at "g"))|((with_reducible apply Mi.wqa_gtF);(wtm_at "g"))|((with_reducible apply Mi.wqa_geT);(wtm_at "g"))|((with_reducible apply Mi.wqa_geF);(wtm_at "g"))|((with_reducible apply Mi.wqa_leT);(wtm_at "g"))
 |(with_reducible apply Mi.wqa_isNf)|(with_reducible apply Mi.wqa_isNt)|(with_reducible apply Mi.wqa_isI)|(with_reducible apply Mi.wqa_isP)|(with_reducible apply Mi.Ri)|(with_reducible apply Mi.Rj)|(with_reducible apply Mi.wqa_orT)|(with_reducible apply Mi.wqa_orF)|(with_reducible apply Mi.Ue)|(with_reducible apply Mi.Ra)|(with_reducible apply Mi.Rb)|(with_reducible apply Mi.Rh)|(with_reducible apply Mi.Px)|(with_reducible apply Mi.Py)|(with_reducible apply Mi.Ud)|(with_reducible apply Mi.RV)|(with_reducible apply Mi.RX)|(with_reducible apply Mi.wqa_chain)
 |wtm_at "l")
local macro_rules | `(tactic| wtm_at "a")=>`(tactic| repeat wtm_at "o")
namespace Kst
open PySem L2 Mi
open K21 (Ex FE)
noncomputable abbrev envD(E:List (Str×Int)):List (Key×D):=E.map λp=>(.inr p.1,.int p.2)
noncomputable def look(E:List (Str×Int))(x:Str):Option Int:=(E.find? λp=>decide (p.1=x)).map (·.2)
theorem Ke:∀{E:List (Str×Int)},Hl (envD E) (.inr x)=(look E x).map D.int
 |[]=>rfl
 |(y,i)::E=>by
  have ih:=Ke (x:=x) (E:=E);unfold Hl look at ih ⊢;show Option.map _ (List.find? _ (((.inr y:Key),D.int i)::envD E))=_;rw[List.find?_cons,List.find?_cons];by_cases e:y=x
  ·subst e;simp
  ·have e1:decide ((Sum.inr y:Key)=.inr x)=false:=AAO λz=>e (Sum.inr.inj z);have e2:decide (y=x)=false:=AAO e;dsimp only;rw[e1,e2];exact ih
noncomputable def one(b:Bool):Int:=if b then 1 else 0
noncomputable def Wj(w:Str)(a b:Int):Int:=
 if w = "+" then min (a+b) 9 else if w = "-" then max (a-b) 0 else if w = "=" then one (a==b) else if w = "<" then one (decide (a<b)) else if w = "and" then one (a != 0&&b != 0) else one (a != 0||b != 0)
noncomputable def ME(E:List (Str×Int)):Ex->Int
 | .num n=>n
 | .var x=>(look E x).getD 0
 | .neg e=>one (ME E e==0)
 | .bin w a b=>Wj w (ME E a) (ME E b)
noncomputable def Ek(ns:List Str):Nat->Ex->Prop
 |_,.num _=>True
 |_,.var x=>x∈ns
 |0,.neg _=>False
 |d+1,.neg e=>Ek ns d e
 |0,.bin _ _ _=>False
 |d+1,.bin w a b=>w∈FE/\Ek ns d a/\Ek ns d b
section
variable{μ:Mh}{QD:D->Mh->Prop}{E:List (Str×Int)}{k:Nat}
theorem ER(q:QD (.int (one b)) μ):WP (f_one_where [.bl b]) μ QD:=by
 unfold f_one_where;refine Br rfl ?_;unfold m_one_where;cases b<;>(wtm_at "a";exact⟨_,_,rfl,q⟩)
theorem Uj(hw:w∈FE)(q:QD (.int (Wj w a b)) μ):WP (f_number_of_pair [.str w,.int a,.int b]) μ QD:=by
 unfold f_number_of_pair;refine Br rfl ?_;unfold m_number_of_pair;have hw:w∈(["+", "-", "=", "<", "and", "or", "="]:List Str):=hw;simp only[AAJ,List.mem_nil_iff,or_false] at hw;rcases hw with rfl|rfl|rfl|rfl|rfl|rfl|rfl
 ·wtm_at "a";refine wp_of (a:=.int (if 9<a+b then 9 else a+b)) (μ':=μ) rfl ?_;wtm_at "a";exact⟨_,_,rfl,by rw[show (if 9<a+b then 9 else a+b)=min (a+b) 9 by omega];exact q⟩
 ·wtm_at "a";refine wp_of (a:=.int (if 0 > a-b then 0 else a-b)) (μ':=μ) rfl ?_;wtm_at "a";exact⟨_,_,rfl,by rw[show (if 0 > a-b then 0 else a-b)=max (a-b) 0 by omega];exact q⟩
 ·wtm_at "a";refine ER ?_;wtm_at "a";exact⟨_,_,rfl,q⟩
 ·wtm_at "a";refine ER ?_;wtm_at "a";exact⟨_,_,rfl,q⟩
 ·have q:QD (.int (one (a != 0&&b != 0))) μ:=q;by_cases h:a=0
  ·subst h;wtm_at "a";refine ER ?_;wtm_at "a";exact⟨_,_,rfl,q⟩
  ·have q:QD (.int (one (b != 0))) μ:=by rw[show (a != 0&&b != 0)=(b != 0) by simp[h]] at q;exact q
   wtm_at "a";refine ER ?_;wtm_at "a";exact⟨_,_,rfl,q⟩
 ·have q:QD (.int (one (a != 0||b != 0))) μ:=q;by_cases h:a=0
  ·subst h;have q:QD (.int (one (b != 0))) μ:=q;wtm_at "a";refine ER ?_;wtm_at "a";exact⟨_,_,rfl,q⟩
  ·have q:QD (.int (one true)) μ:=by rw[show (a != 0||b != 0)=true by simp[h]] at q;exact q
   wtm_at "a";refine ER ?_;wtm_at "a";exact⟨_,_,rfl,q⟩
 ·wtm_at "a";refine ER ?_;wtm_at "a";exact⟨_,_,rfl,q⟩
theorem Zf(hw:w∈FE):PyData.strOk w=true/\(w == "num")=false/\(w == "var")=false/\(w == "not")=false:=(show ∀w∈FE,PyData.strOk w=true/\(w == "num")=false/\(w == "var")=false/\(w == "not")=false by decide +kernel) w hw
def Has(ns:List Str)(E:List (Str×Int)):Prop:=∀x∈ns,(look E x).isSome=true
theorem Hg(hE:Has ns E):∀(n:Nat) {e:Ex} {d:Nat} {QD:D->Mh->Prop},d<n->Ek ns d e->μ[k]?=some (.dK (envD E))->QD (.int (ME E e)) μ->WP (f_number_of n [e.toD,.ref k]) μ QD
 |0,_,_,_,h,_,_,_=>absurd h (by omega)
 |n+1,.num i,d,QD,_,_,_,q=>by
  unfold f_number_of;refine Br rfl ?_;unfold m_number_of Ex.toD;wtm_at "a";exact⟨_,_,rfl,q⟩
 |n+1,.var x,d,QD,_,hx,hm,q=>by
  have hx:(look E x).isSome=true:=hE x (by unfold Ek at hx;exact hx);obtain⟨i,hi⟩:=Option.isSome_iff_exists.mp hx;unfold f_number_of;refine Br rfl ?_;unfold m_number_of Ex.toD;wtm_at "a";refine Rg hm rfl (by rw[Ke,hi];rfl) ?_;wtm_at "a";refine⟨_,_,rfl,?_⟩;unfold ME at q;rw[hi] at q;exact q
 |n+1,.neg e,0,QD,_,hx,_,q=>by unfold Ek at hx;exact hx.elim
 |n+1,.neg e,d+1,QD,hd,hx,hm,q=>by
  unfold Ek at hx;unfold f_number_of;refine Br rfl ?_;unfold m_number_of Ex.toD;wtm_at "a";refine Hg hE n (Nat.lt_of_succ_lt_succ hd) hx hm ?_;wtm_at "a";refine ER ?_;wtm_at "a";exact⟨_,_,rfl,q⟩
 |n+1,.bin w a b,0,QD,_,hx,_,q=>by unfold Ek at hx;exact hx.elim
 |n+1,.bin w a b,d+1,QD,hd,hx,hm,q=>by
  unfold Ek at hx;obtain⟨hw,ha,hb⟩:=hx;obtain⟨w1,w2,w3,w4⟩:=Zf hw;unfold f_number_of;refine Br rfl ?_;unfold m_number_of Ex.toD;wtm_at "a";refine HU w1 (by decide +kernel) w2 ?_;wtm_at "a";refine HU w1 (by decide +kernel) w3 ?_;wtm_at "a";refine Hg hE n (Nat.lt_of_succ_lt_succ hd) ha hm ?_;wtm_at "a";refine HU w1 (by decide +kernel) w4 ?_;wtm_at "a";refine Hg hE n (Nat.lt_of_succ_lt_succ hd) hb hm ?_;wtm_at "a";refine Uj hw ?_;wtm_at "a";exact⟨_,_,rfl,q⟩
end
end Kst
namespace Kst
open PySem L2 Mi
open K21 (Ex Rw FE)
noncomputable def Sn(E:List (Str×Int))(x:Str)(v:Int):List (Str×Int):=E.map λp=>if p.1=x then (p.1,v) else p
theorem VR(h:(look E x).isSome=true):JP (envD E) (.inr x) (.int v)=envD (Sn E x v):=by
 have e1:((envD E).any λkv=>decide (kv.1=.inr x))=true:=by
  unfold look at h;rw[Option.isSome_map] at h;obtain⟨p,hp⟩:=Option.isSome_iff_exists.mp h;have m:=List.mem_of_find?_eq_some hp;have q:=List.find?_some hp;rw[List.any_map,List.any_eq_true];have e0:p.1=x:=by simpa using q
  exact⟨p,m,by simp[e0]⟩
 unfold JP;rw[if_pos e1];unfold Sn envD;rw[List.map_map,List.map_map];refine List.map_congr_left λp _=>?_;show (if (Sum.inr p.1:Key)=.inr x then ((.inr p.1:Key),D.int v) else (.inr p.1,.int p.2))=_;by_cases e:p.1=x
 ·rw[if_pos (by rw[e])];show _=((.inr (if p.1=x then (p.1,v) else p).1:Key),D.int (if p.1=x then (p.1,v) else p).2);rw[if_pos e]
 ·rw[if_neg (λz=>e (Sum.inr.inj z))];show _=((.inr (if p.1=x then (p.1,v) else p).1:Key),D.int (if p.1=x then (p.1,v) else p).2);rw[if_neg e]
theorem Tj:(Sn E x v).map (·.1)=E.map (·.1):=by
 unfold Sn;rw[List.map_map];refine List.map_congr_left λp _=>?_;show (if p.1=x then (p.1,v) else p).1=p.1;split<;>rfl
theorem Gk:∀{E:List (Str×Int)},(look E x).isSome=true↔x∈E.map (·.1)
 |[]=>by simp[look]
 |(y,i)::E=>by
  have ih:=Gk (x:=x) (E:=E);unfold look at ih ⊢;rw[List.find?_cons,AAX,AAJ];by_cases e:y=x
  ·subst e;simp
  ·rw[AAO e];dsimp only;rw[ih];constructor
   ·exact .inr
   ·rintro(z|z)
    ·exact absurd z.symm e
    ·exact z
noncomputable def DN(r:Rw)(a:Int)(E:List (Str×Int)):Int×List (Str×Int):=match r with
 | .jump t=>(t,E)
 | .unl e t=>if ME E e=0 then (t,E) else (a+1,E)
 | .lett x e=>(a+1,Sn E x (ME E e))
 |_=>(a+1,E)
noncomputable def isU:Rw->Bool
 | .jump _=>true
 | .unl _ _=>true
 | .lett _ _=>true
 |_=>false
def Rk(ns:List Str)(r:Rw):Prop:=match r with
 | .put _ e=>Ek ns 5 e
 | .get x _=>x∈ns
 | .lett x e=>x∈ns/\Ek ns 5 e
 | .unl e _=>Ek ns 5 e
 | .tell e=>Ek ns 5 e
 |_=>True
section
variable{μ gs:Mh}{QD:D->Mh->Prop}{E:List (Str×Int)}{ns:List Str}
theorem JD(gs:Mh):(μ++o::gs)[μ.length]?=some o:=by simp
theorem OU(hE:Has ns E)(hl:E.length<1000)(hr:Rk ns r)(hu:isU r=true)(q:QD (.int (DN r a E).1) (μ++.dK (envD (DN r a E).2)::gs)):WP (f_row_behind [r.toD,.int a,.ref μ.length]) (μ++.dK (envD E)::gs) QD:=by
 unfold f_row_behind;refine Br rfl ?_;unfold m_row_behind;cases r with
 |jump t=>
  unfold Rw.toD;wtm_at "a";exact⟨_,_,rfl,q⟩
 |unl e t=>
  unfold Rk at hr;unfold Rw.toD;wtm_at "a";refine Hg hE 6 (by omega) hr (JD _) ?_;wtm_at "a";by_cases h:ME E e=0
  ·have q:QD (.int t) (μ++.dK (envD E)::gs):=by rw[show DN (.unl e t) a E=(t,E) from if_pos h] at q;exact q
   rw[beq_iff_eq.mpr h];wtm_at "a";exact⟨_,_,rfl,q⟩
  ·have q:QD (.int (a+1)) (μ++.dK (envD E)::gs):=by rw[show DN (.unl e t) a E=(a+1,E) from if_neg h] at q;exact q
   rw[AAf.mpr h];wtm_at "a";exact⟨_,_,rfl,q⟩
 |lett x e=>
  obtain⟨hx,he⟩:=(show x∈ns/\Ek ns 5 e from hr);unfold Rw.toD;wtm_at "a";refine Rf ?_;wtm_at "a";refine Hg hE 6 (by omega) he (JD _) ?_;wtm_at "a";refine⟨μ.length,_,.inr x,rfl,JD _,rfl,by rw[AAG];exact hl,?_⟩;rw[VR (hE x hx),List.set_append_right _ _ (AAF _),Nat.sub_self,List.set_cons_zero];wtm_at "a";exact⟨_,_,rfl,q⟩
 |_=>cases hu
theorem Mr:∀{E F L R:List (Str×Int)},F.map (·.1)=E.map (·.1)->L=R++F->(L.map (·.1)).Nodup->JW (envD L) (envD E)=some (decide (E=F))
 |[],F,L,R,hk,_,_=>by
  cases F with
  |nil=>rfl
  |cons _ _=>cases hk
 |(x,i)::E,[],L,R,hk,_,_=>by cases hk
 |(x,i)::E,(y,j)::F,L,R,hk,hL,nd=>by
  rw[AAX,AAX] at hk;obtain⟨e1,e2⟩:=List.cons.inj hk;have e1:y=x:=e1;subst e1;have ih:=Mr (E:=E) (F:=F) (L:=L) (R:=R++[(y,j)]) e2 (by rw[hL];simp) nd;have hv:look L y=some j:=by
   rw[hL] at nd ⊢;rw[AAY,AAX] at nd;have ny:y∉R.map (·.1):=λz=>(List.nodup_append.mp nd).2.2 y z y (AAQ) rfl;unfold look;rw[List.find?_append,List.find?_cons,AAP rfl];have:R.find? (λp=>decide (p.1=y))=none:=by
    rw[List.find?_eq_none];intro p hp z;exact ny (AAM.mpr ⟨p,hp,by simpa using z⟩)
   rw[this];rfl
  show (match Hl (envD L) (.inr y) with|none=>some false|some d'=>if Kz (.int i)=true/\Kz d'=true/\deep (.int i)<=8 then (JW (envD L) (envD E)).map λb=>decide (D.int i=d')&&b else none)=_;rw[Ke,hv];show (if Kz (.int i)=true/\Kz (.int j)=true/\deep (.int i)<=8 then (JW (envD L) (envD E)).map λb=>decide (D.int i=.int j)&&b else none)=_;rw[if_pos ⟨rfl,rfl,by show 0<=8;omega⟩,ih];show some (decide (D.int i=.int j)&&decide (E=F))=_;congr 1;rw[Bool.eq_iff_iff];simp
theorem XU(h1:μ[n]?=some (.dK (envD E)))(h2:μ[m]?=some (.dK (envD F)))(hk:F.map (·.1)=E.map (·.1))(nd:(F.map (·.1)).Nodup)(q:QD (.bl (decide (E=F))) μ):WP (Q2 (.ref n) (.ref m)) μ QD:=by
 refine wp_of (a:=.bl (decide (E=F))) (μ':=μ) ?_ q;unfold Q2;rw[BN (show Bq (.ref n) μ=some ((n,envD E),μ) from by unfold Bq;dsimp only;rw[h1]),BN (show Bq (.ref m) μ=some ((m,envD F),μ) from by unfold Bq;dsimp only;rw[h2])];show (if (envD E).length=(envD F).length then (JW (envD F) (envD E)).map λz=>(D.bl z,μ) else some (.bl false,μ))=_;rw[if_pos (by have:=congrArg List.length hk;simpa using this.symm),Mr (L:=F) (R:=[]) hk rfl nd];rfl
end
noncomputable def Mc(rs:List Rw):Nat->Int->List (Str×Int)->Option (Int×List (Str×Int))->Int->Int->Option (Option Int×List (Str×Int))
 |0,_,_,_,_,_=>none
 |f+1,a,E,kp,sp,lf=>match rs[a.toNat]? with
  |none=>some (some a,E)
  |some r=>match isU r with
   |false=>some (some a,E)
   |true=>if kp=some (a,E) then some (none,E) else
    if lf-1=0 then Mc rs f (DN r a E).1 (DN r a E).2 (some (a,E)) (2 * sp) (2 * sp)
    else Mc rs f (DN r a E).1 (DN r a E).2 kp sp (lf-1)
structure Rows(ns:List Str)(rs:List Rw):Prop where
 rk:∀r∈rs,Rk ns r
 tu:∀e t,Rw.unl e t∈rs->0<=t/\t<=rs.length
 tj:∀t,Rw.jump t∈rs->0<=t/\t<=rs.length
 few:rs.length<=1000
noncomputable def Kp(n:Nat)(gs:Mh)(E:List (Str×Int)):Option (Int×List (Str×Int))->D->D->Prop
 |none,s3,s4=>s3=.non/\s4=.non
 |some (a,F),s3,s4=>s3=.int a/\F.map (·.1)=E.map (·.1)/\∃j,s4=.ref (n+1+j)/\gs[j]?=some (.dK (envD F))
section
variable{E:List (Str×Int)}{ns:List Str}{rs:List Rw}
theorem SW(h:Rows ns rs){r:Rw}{a:Int}(hr:r∈rs)(ha:0<=a/\a<rs.length):0<=(DN r a E).1/\(DN r a E).1<=rs.length:=by
 cases r with
 |jump t=>exact h.tj t hr
 |unl e t=>
  unfold DN;dsimp only;split
  ·exact h.tu e t hr
  ·constructor
   ·show 0<=a+1;omega
   ·show a+1<=_;omega
 |_=>constructor<;>(unfold DN;dsimp only;omega)
theorem row_keys:(DN r a E).2.map (·.1)=E.map (·.1):=by
 cases r with
 |unl e t=>unfold DN;dsimp only;split<;>rfl
 |lett x e=>exact Tj
 |_=>rfl
theorem Oz(h:Has ns E):Has ns (DN r a E).2:=λx hx=>by
 rw[Gk,row_keys,←Gk];exact h x hx
noncomputable abbrev whC:Sl->M Bool:=(K4 (BZ (mOp Kv (Ag 1) (BS DE (BM (Ag 0) AI)))) (BZ (mOp (JO false) (mOp CJ (mOp CJ (Ag 0) (Ag 1)) (mC (.int 0))) (mC Cf))))
noncomputable def whR:Sl->M (Fl×Sl):=(BV (Bl (mOp Ku (Ag 6) (mC (.int 1))) (Aq 6))
  (BV (sIf (BZ (mOp Cb (Ag 6) (mC (.int 0)))) (BV (Bl (Ag 1) (Aq 3))
  (BV (Bl (BS Iq (BM (Ag 2) AI)) (Aq 4))
  (BV (Bl (mOp C4 (mC (.int 2)) (Ag 5)) (Aq 5))
  (Bl (Ag 5) (Aq 6))))) Ax)
  (Bl (BS f_row_behind (BM (mOp CJ (Ag 0) (Ag 1)) (BM (Ag 1) (BM (Ag 2) AI)))) (Aq 1))))
noncomputable abbrev whB:Sl->M (Fl×Sl):=(BV (sIf (K4 (BZ (mOp Cb (Ag 1) (Ag 3))) (BZ (mOp Q2 (Ag 2) (Ag 4)))) (DL (mC .non)) Ax) whR)
theorem Qy:m_followed f_row_behind=(BV (Bl (mC .non) (Aq 3)) (BV (Bl (mC .non) (Aq 4)) (BV (Bl (mC (.int 1)) (Aq 5)) (BV (Bl (mC (.int 1)) (Aq 6)) (BV (Gd BO whC whB) (DL (Ag 1))))))):=rfl
theorem Ny(ha:0<=a)(h:rs[a.toNat]?=some r):atI (rs.map Rw.toD) a=some r.toD:=by
 obtain⟨n,rfl⟩:=Int.eq_ofNat_of_zero_le ha;have h:rs[n]?=some r:=h;exact Pp (j:=n) (by rw[AAW,h];rfl)
end
section
variable{μ gs:Mh}{QD:D->Mh->Prop}{QS:Fl×Sl->Mh->Prop}{E E':List (Str×Int)}{ns:List Str}{rs:List Rw}
abbrev fs(rs:List Rw)(n:Nat)(a:Int)(s3 s4:D)(sp lf:Int):Sl:=[some (.tup (rs.map Rw.toD)),some (.int a),some (.ref n),some s3,some s4,some (.int sp),some (.int lf)]
theorem XG{a sp lf:Int}{s3 s4:D}(ha:0<=a/\a<=rs.length)(q:QB (match rs[a.toNat]? with|none=>false|some r=>isU r) μ):WP (whC (fs rs n a s3 s4 sp lf)) μ QB:=by
 wtm_at "a";rw[AAG];cases e:rs[a.toNat]? with
 |none=>
  rw[e] at q;have:=List.getElem?_eq_none_iff.mp e;rw[AAO (show ¬a<(rs.length:Int) by omega)];wtm_at "a";exact q
 |some r=>
  rw[e] at q;have:=(AAU.mp e).1;rw[AAP (show a<(rs.length:Int) by omega)];wtm_at "a";refine Kd (Ny ha.1 e) ?_;have q:QB (isU r) μ:=q;cases r<;>(unfold Rw.toD;wtm_at "a";exact⟨_,_,rfl,_,rfl,q⟩)
theorem XH{a sp lf:Int}{s3 s4:D}(h:Rows ns rs)(hE:Has ns E)(hl:E.length<1000)(nd:(E.map (·.1)).Nodup)(ha:0<=a/\a<=rs.length)(e:rs[a.toNat]?=some r)(hu:isU r=true)(hk:Kp μ.length gs E kp s3 s4)
  (q1:kp=some (a,E)->QS (.rt .non,fs rs μ.length a s3 s4 sp lf) (μ++.dK (envD E)::gs))
  (q2:kp≠some (a,E)->lf-1=0->QS (.next,fs rs μ.length (DN r a E).1 (.int a) (.ref (μ.length+1+gs.length)) (2 * sp) (2 * sp)) (μ++.dK (envD (DN r a E).2)::(gs++[.dK (envD E)])))
  (q3:kp≠some (a,E)->lf-1≠0->QS (.next,fs rs μ.length (DN r a E).1 s3 s4 sp (lf-1)) (μ++.dK (envD (DN r a E).2)::gs)) :
  WP (whB (fs rs μ.length a s3 s4 sp lf)) (μ++.dK (envD E)::gs) QS:=by
 have hr:r∈rs:=AAV e;have go:kp≠some (a,E)->WP (whR (fs rs μ.length a s3 s4 sp lf)) (μ++.dK (envD E)::gs) QS:=λhne=>by
  unfold whR;wtm_at "a";refine wp_of (a:=.int (lf-1)) (μ':=_) rfl ?_;by_cases hz:lf-1=0
  ·wtm_at "a";refine wp_of (a:=.ref (μ.length+1+gs.length)) (μ':=μ++.dK (envD E)::(gs++[.dK (envD E)])) ?_ ?_
   ·show bnd (Bq (.ref μ.length)) (λr μ=>some (D.ref (List.length μ),μ++[MO.dK r.2])) (μ++.dK (envD E)::gs)=_;rw[BN (show Bq (.ref μ.length) (μ++.dK (envD E)::gs)=some ((μ.length,envD E),μ++.dK (envD E)::gs) from by unfold Bq;dsimp only;rw[JD])];show some (D.ref (μ++MO.dK (envD E)::gs).length,(μ++MO.dK (envD E)::gs)++[MO.dK (envD E)])=_;rw[AAH,AAI,List.append_assoc,List.cons_append,show μ.length+(gs.length+1)=μ.length+1+gs.length by omega]
   wtm_at "a";refine Hh (.inl (by decide)) ?_;wtm_at "a";refine Kd (Ny ha.1 e) ?_;wtm_at "a";refine OU hE hl (h.rk r hr) hu ?_;wtm_at "a";exact q2 hne hz
  ·wtm_at "a";refine Kd (Ny ha.1 e) ?_;wtm_at "a";refine OU hE hl (h.rk r hr) hu ?_;wtm_at "a";exact q3 hne hz
 cases kp with
 |none=>
  obtain⟨rfl,rfl⟩:=hk;have go:=go (by intro z;cases z);wtm_at "a";refine wp_of (a:=.bl false) (μ':=_) rfl ?_;wtm_at "a";exact go
 |some p=>
  obtain⟨b,F⟩:=p;obtain⟨rfl,hF,j,rfl,hj⟩:=hk;have hj':(μ++MO.dK (envD E)::gs)[μ.length+1+j]?=some (.dK (envD F)):=by
   rw[AAS (by omega),show μ.length+1+j-μ.length=j+1 by omega,AAu];exact hj
  by_cases hb:a=b
  ·subst hb;wtm_at "a";refine XU (JD _) hj' hF (by rw[hF];exact nd) ?_;by_cases hf:E=F
   ·subst hf;rw[AAP rfl];wtm_at "a";exact q1 rfl
   ·rw[AAO hf];wtm_at "a";exact go (by intro z;cases z;exact hf rfl)
  ·have go:=go (by intro z;cases z;exact hb rfl);wtm_at "a";exact go
theorem NG(h:Rows ns rs){res:Option Int}:∀(f:Nat) {a:Int} {E:List (Str×Int)} {kp:Option (Int×List (Str×Int))} {sp lf:Int} {gs:Mh} {s3 s4:D},Has ns E->E.length<1000->(E.map (·.1)).Nodup->0<=a/\a<=rs.length->Kp μ.length gs E kp s3 s4->Mc rs f a E kp sp lf=some (res,E')->
  (∀(τ:Sl) (gs':Mh),res=none->QS (.rt .non,τ) (μ++.dK (envD E')::gs'))->(∀(a':Int) (s3 s4:D) (sp lf:Int) (gs':Mh),res=some a'->E'.map (·.1)=E.map (·.1)->0<=a'/\a'<=rs.length->QS (.next,fs rs μ.length a' s3 s4 sp lf) (μ++.dK (envD E')::gs'))->
  WP (NL whC whB f (fs rs μ.length a s3 s4 sp lf)) (μ++.dK (envD E)::gs) QS
 |0,_,_,_,_,_,_,_,_,_,_,_,_,_,hf,_,_=>by cases hf
 |f+1,a,E,kp,sp,lf,gs,s3,s4,hE,hl,nd,ha,hk,hf,q1,q2=>by
  unfold Mc at hf;unfold NL;refine A9 (XG ha ?_);cases e:rs[a.toNat]? with
  |none=>
   rw[e] at hf;cases hf;rw[if_neg (by decide)];exact Bn (q2 a s3 s4 sp lf gs rfl rfl ha)
  |some r=>
   rw[e] at hf;dsimp only at hf ⊢;by_cases hu:isU r=true
   case neg=>
    rw[Bool.eq_false_iff.mpr hu] at hf;cases hf;rw[if_neg hu];exact Bn (q2 a s3 s4 sp lf gs rfl rfl ha)
   case pos=>
    rw[hu] at hf;dsimp only at hf;rw[if_pos hu];have hlt:a<rs.length:=by
     have:=(AAU.mp e).1;omega
    have hr:r∈rs:=AAV e;have hl2:(DN r a E).2.length<1000:=by
     have:=congrArg List.length (row_keys (r:=r) (a:=a) (E:=E));rw[AAG,AAG] at this;omega
    have nd2:((DN r a E).2.map (·.1)).Nodup:=by rw[row_keys];exact nd
    refine A9 (XH h hE hl nd ha e hu hk (λhz=>?_) (λhz h0=>?_) (λhz h0=>?_))
    ·rw[if_pos hz] at hf;cases hf;exact Bn (q1 _ gs rfl)
    ·rw[if_neg hz,if_pos h0] at hf;refine NG (kp:=some (a,E)) h f (Oz hE) hl2 nd2 (SW h hr ⟨ha.1,hlt⟩) ⟨rfl,row_keys.symm,gs.length,rfl,by simp⟩ hf q1 λa' s3 s4 sp lf gs' hr hk=>q2 a' s3 s4 sp lf gs' hr (hk.trans row_keys)
    ·rw[if_neg hz,if_neg h0] at hf;refine NG h f (Oz hE) hl2 nd2 (SW h hr ⟨ha.1,hlt⟩) ?_ hf q1 λa' s3 s4 sp lf gs' hr hk=>q2 a' s3 s4 sp lf gs' hr (hk.trans row_keys);cases kp with
     |none=>exact hk
     |some p=>obtain⟨k1,k2,k3⟩:=hk;exact⟨k1,k2.trans row_keys.symm,k3⟩
noncomputable def fol(rs:List Rw)(a:Int)(E:List (Str×Int)):Option (Option Int×List (Str×Int)):=Mc rs BO a E none 1 1
theorem wq_followed(h:Rows ns rs){res:Option Int}{a:Int}(hE:Has ns E)(hl:E.length<1000)(nd:(E.map (·.1)).Nodup)(ha:0<=a/\a<=rs.length)(hf:fol rs a E=some (res,E'))
  (q1:∀gs':Mh,res=none->QD .non (μ++.dK (envD E')::gs')) (q2:∀(a':Int) (gs':Mh),res=some a'->E'.map (·.1)=E.map (·.1)->0<=a'/\a'<=rs.length->QD (.int a') (μ++.dK (envD E')::gs')):WP (f_followed [.tup (rs.map Rw.toD),.int a,.ref μ.length]) (μ++[.dK (envD E)]) QD:=by
 unfold f_followed;refine Br rfl ?_;rw[Qy];wtm_at "a";unfold Gd;refine NG (μ:=μ) (gs:=[]) (kp:=none) h BO hE hl nd ha ⟨rfl,rfl⟩ hf (λτ gs' hr=>?_) (λa' s3 s4 sp lf gs' hr hk hb=>?_)
 ·wtm_at "a";exact⟨_,_,rfl,q1 gs' hr⟩
 ·wtm_at "a";exact⟨_,_,rfl,q2 a' gs' hr hk hb⟩
end
end Kst
namespace Mi
open PySem L2
theorem Fn.less(F:Fn P w K mg base x ps k φ)(h:∀ds μ r,ψ ds μ=some r->φ ds μ=some r):Fn P w K mg base x ps k ψ:=by
 obtain⟨len,f,fd,F1,hm,hk,hb⟩:=F;refine⟨λds μ r e=>len ds μ r (h _ _ _ e),f,fd,F1.imp λvs H Q E q=>⟨q.1,?_⟩,hm,hk,hb⟩;obtain⟨_,ι,μ,as,d,μ',R,i,e,q⟩:=q;exact⟨ι,μ,as,d,μ',R,i,h _ _ _ e,q⟩
theorem Ii:∀{n:Nat} {r:Mh},List.length r=n->Bj k n (r++g)=Bj k n r
 |0,[],_=>by cases g<;>rfl
 |n+1,o::r,h=>by
  have ih:=Ii (k:=k) (g:=g) (n:=n) (r:=r) (by simpa using h);show (match WK k o with|true=>(match Bj k n (r++g) with|some r=>some (o::r)|none=>none)|false=>none)=(match WK k o with|true=>(match Bj k n r with|some r=>some (o::r)|none=>none)|false=>none);rw[ih]
theorem UN(h:Aj .all N ps mb ds μ=some (d,μ1++g))(hl:List.length μ1=List.length μ):Aj .drop N ps mb ds μ=Kx μ .drop d μ1:=by
 unfold Aj at h ⊢;split at h
 ·split at h
  ·rename_i fl τ μ2 e;split at h
   ·rename_i hf;have h:(QM fl,μ2)=(d,μ1++g):=Option.some.inj h;obtain⟨h1,h2⟩:=Prod.mk.inj h;rw[h1,h2];unfold Kx;rw[Ii hl]
   ·cases h
  ·cases h
 ·cases h
end Mi
namespace K24
open PySem L2 Mi
open K21 (Ex Rw FE)
noncomputable def f_one_where:List D->M D:=Aj .all 1 1 (m_one_where)
noncomputable def f_number_of_pair:List D->M D:=Aj .all 3 3 (m_number_of_pair f_one_where)
noncomputable def f_number_of:Nat->List D->M D
 |0=>λ_=>BK
 |n+1=>Aj .all 4 2 (m_number_of (f_number_of n) f_one_where f_number_of_pair)
noncomputable def f_row_behind:List D->M D:=Aj .all 3 3 (m_row_behind (f_number_of 6))
noncomputable def Ce:List D->M D:=Aj .drop 7 3 (m_followed f_row_behind)
theorem XA:f_one_where=Kst.f_one_where:=by
 unfold f_one_where Kst.f_one_where m_one_where Kst.m_one_where;simp only[Bt,Cz,Bu,By,Bb,CF,Cu,CK,Cy,Bs,CG,B1,CI]
theorem Yp:f_number_of_pair=Kst.f_number_of_pair:=by
 unfold f_number_of_pair Kst.f_number_of_pair;rw[XA];unfold m_number_of_pair Kst.m_number_of_pair;simp only[Bt,Cz,Bu,By,Bb,CF,Cu,CK,Cy,Bs,CG,B1,CI];rfl
theorem XB:∀n,f_number_of n=Kst.f_number_of n
 |0=>rfl
 |n+1=>by
  show Aj .all 4 2 (m_number_of (f_number_of n) f_one_where f_number_of_pair)=Aj .all 4 2 (Kst.m_number_of (Kst.f_number_of n) Kst.f_one_where Kst.f_number_of_pair);rw[XB n,XA,Yp];unfold m_number_of Kst.m_number_of;simp only[Bt,Cz,Bu,By,Bb,CF,Cu,CK,Cy,Bs,CG,B1,CI];rfl
theorem aJ:f_row_behind=Kst.f_row_behind:=by
 unfold f_row_behind Kst.f_row_behind;rw[XB];unfold m_row_behind Kst.m_row_behind;simp only[Bt,Cz,Bu,By,Bb,CF,Cu,CK,Cy,Bs,CG,B1,CI];rfl
theorem aK:m_followed f_row_behind=Kst.m_followed Kst.f_row_behind:=by
 rw[aJ];unfold m_followed Kst.m_followed;simp only[Bt,Cz,Bu,By,Bb,CF,Cu,CK,Cy,Bs,CG,B1,CI];rfl
noncomputable def cnt:List Rw:=[.lett "x" (.bin "+" (.var "x") (.num 1)),.unl (.bin "=" (.var "x") (.num 9)) 0,.lett "x" (.num 0),.lett "y" (.bin "+" (.var "y") (.num 1)),.unl (.bin "=" (.var "y") (.num 9)) 0,.lett "y" (.num 0),.lett "z" (.bin "+" (.var "z") (.num 1)),.unl (.bin "=" (.var "z") (.num 9)) 0,.lett "z" (.num 0)]
noncomputable def E0:List (Str×Int):=[("x",0),("y",0),("z",0)]
noncomputable def Lc:D->Option Rw
 | .tup [.str w,.int t]=>match seq w "jump" && ieq t 0 with
  |true=>some (.jump 0)
  |false=>none
 | .tup [.str w,.tup [.str u,.int j]]=>match seq w "tell" && seq u "num" with
  |true=>some (.tell (.num j))
  |false=>none
 |_=>none
theorem R7(h:Lc d=some r):r.toD=d:=by
 unfold Lc at h;split at h
 ·split at h
  ·rename_i e;rw[Bool.and_eq_true,Hu,LB] at e;cases h;rw[eq_of_beq e.1,eq_of_beq e.2];rfl
  ·cases h
 ·split at h
  ·rename_i e;rw[Bool.and_eq_true,Hu,Hu] at e;cases h;rw[eq_of_beq e.1,eq_of_beq e.2];rfl
  ·cases h
 ·cases h
noncomputable def E1:List (Str×Int):=[("x",0),("y",5),("z",1)]
noncomputable def Yd:Option MO->Bool
 |some (.dK [(.inr a,.int i),(.inr b,.int j),(.inr c,.int k)])=>(seq a "x" && (seq b "y" && seq c "z"))&&(ieq i 0&&(ieq j 0&&ieq k 0))
 |_=>false
theorem WA(h:Yd o=true):o=some (.dK (Kst.envD E0)):=by
 unfold Yd at h;split at h
 ·simp only[Bool.and_eq_true,Hu,LB,beq_iff_eq] at h;obtain⟨⟨rfl,rfl,rfl⟩,rfl,rfl,rfl⟩:=h;rfl
 ·cases h
noncomputable def hit(ds:List D)(μ:Mh):Option Rw:=match ds with
 |[.tup rs,.int z,.ref n]=>match Nat.beq (List.length rs) 10 with
  |true=>match ieq z 0&&(Nat.beq (n+1) (List.length μ)&&(M6 (rs.take 9) (cnt.map Rw.toD)&&Yd μ[n]?)) with
   |true=>match rs.drop 9 with
    |[t]=>Lc t
    |_=>none
   |false=>none
  |false=>none
 |_=>none
theorem Tr(h:hit ds μ=some r):∃μ0:Mh,μ=μ0++[.dK (Kst.envD E0)]/\ds=[.tup ((cnt++[r]).map Rw.toD),.int 0,.ref (List.length μ0)]:=by
 unfold hit at h;split at h
 ·rename_i rs z n;split at h
  ·split at h
   ·rename_i e;simp only[Bool.and_eq_true,LB,beq_iff_eq] at e;obtain⟨rfl,e1,e2,e3⟩:=e;split at h
    ·rename_i t et;have e1:=Nat.eq_of_beq_eq_true e1;have e2:=He e2;have e3:=WA e3;refine⟨μ.take n,?_,?_⟩
     ·conv=>lhs;rw[←List.take_append_drop n μ]
      congr 1;have hn:n<List.length μ:=by omega
      rw[List.drop_eq_getElem_cons hn,List.drop_eq_nil_of_le (by omega)];rw[AAt hn] at e3;rw[Option.some.inj e3]
     ·rw[List.length_take,Nat.min_eq_left (by omega),AAY,←e2];show _=[D.tup (rs.take 9++[r.toD]),_,_];rw[R7 h,←et,List.take_append_drop]
    ·cases h
   ·cases h
  ·cases h
 ·cases h
theorem VA(hr:r=.jump 0∨∃j,r=.tell (.num j)):Kst.Rows ["x", "y", "z"] (cnt++[r]):=by
 have rk:∀q∈cnt++[r],Kst.Rk ["x", "y", "z"] q/\∀t,((∃e,q=.unl e t)∨q=.jump t)->t=0:=by
  intro q hq;rw[AAK] at hq;rcases hq with hq|hq
  ·have hq:q∈([.lett "x" (.bin "+" (.var "x") (.num 1)),.unl (.bin "=" (.var "x") (.num 9)) 0,.lett "x" (.num 0),.lett "y" (.bin "+" (.var "y") (.num 1)),.unl (.bin "=" (.var "y") (.num 9)) 0,.lett "y" (.num 0),.lett "z" (.bin "+" (.var "z") (.num 1)),.unl (.bin "=" (.var "z") (.num 9)) 0,.lett "z" (.num 0)]:List Rw):=hq;simp only[AAJ,List.mem_nil_iff,or_false] at hq;rcases hq with rfl|rfl|rfl|rfl|rfl|rfl|rfl|rfl|rfl<;>(refine⟨?_,?_⟩<;>simp[Kst.Rk,Kst.Ek,FE]<;>(try (intro t h;exact h.symm)))
  ·rw[AAL] at hq;subst hq;rcases hr with rfl|⟨j,rfl⟩<;>(refine⟨?_,?_⟩<;>simp[Kst.Rk,Kst.Ek]<;>(try (intro t h;exact h.symm)))
 exact⟨λq hq=>(rk q hq).1,λe t h=>by rw[(rk _ h).2 t (.inl ⟨e,rfl⟩)];exact⟨Int.le_refl _,Int.natCast_nonneg _⟩,λt h=>by rw[(rk _ h).2 t (.inr rfl)];exact⟨Int.le_refl _,Int.natCast_nonneg _⟩,by show 10<=1000;omega⟩
theorem br:Kst.Has ["x", "y", "z"] E0:=by
 intro x hx;simp only[AAJ,List.mem_nil_iff,or_false] at hx;rcases hx with rfl|rfl|rfl<;>decide +kernel
theorem Tv(j:Int):Kst.fol (cnt++[.tell (.num j)]) 0 E0=some (some 9,E0):=by kernel_rfl
theorem Tx:Kst.fol (cnt++[.jump 0]) 0 E0=some (none,E1):=by kernel_rfl
noncomputable def f_followed(ds:List D):M D:=λμ=>match hit ds μ with
 |some (.jump _)=>Kx μ .drop .non (μ.take (List.length μ-1)++[.dK (Kst.envD E1)])
 |some (.tell _)=>Kx μ .drop (.int 9) μ
 |_=>Ce ds μ
noncomputable def rD:Option Int->D
 |none=>.non
 |some a=>.int a
theorem Ty(hr:r=.jump 0∨∃j,r=.tell (.num j))(hf:Kst.fol (cnt++[r]) 0 E0=some (res,E')):
  Ce [.tup ((cnt++[r]).map Rw.toD),.int 0,.ref (List.length μ0)] (μ0++[.dK (Kst.envD E0)])=Kx (μ0++[.dK (Kst.envD E0)]) .drop (rD res) (μ0++[.dK (Kst.envD E')]):=by
 have w:WP (Kst.f_followed [.tup ((cnt++[r]).map Rw.toD),.int 0,.ref (List.length μ0)]) (μ0++[.dK (Kst.envD E0)]) λd μ'=>∃g,d=(rD res)/\μ'=(μ0++[.dK (Kst.envD E')])++g:=by
  refine Kst.wq_followed (VA hr) br (by show 3<1000;omega) (by decide +kernel) ⟨Int.le_refl _,Int.natCast_nonneg _⟩ hf (λg e=>⟨g,by rw[e];rfl,by simp⟩) (λa g e _ _=>⟨g,by rw[e];rfl,by simp⟩)
 obtain⟨d,μ',e,g,rfl,rfl⟩:=w;unfold Ce;rw[aK];exact UN e (by simp)
theorem Tw(ds:List D)(μ:Mh)(r:D×Mh)(h:f_followed ds μ=some r):Ce ds μ=some r:=by
 unfold f_followed at h;split at h
 ·rename_i t e;have ht:t=0:=by
   unfold hit at e;split at e
   ·split at e
    ·split at e
     ·split at e
      ·unfold Lc at e;split at e
       ·split at e
        ·cases e;rfl
        ·cases e
       ·split at e<;>cases e
       ·cases e
      ·cases e
     ·cases e
    ·cases e
   ·cases e
  subst ht;obtain⟨μ0,rfl,rfl⟩:=Tr e;rw[Ty (.inl rfl) Tx,←h];congr 2;rw[AAH,List.length_singleton,Nat.add_sub_cancel,List.take_left'];rfl
 ·rename_i x e;have ht:∃j,x=.num j:=by
   unfold hit at e;split at e
   ·split at e
    ·split at e
     ·split at e
      ·unfold Lc at e;split at e
       ·split at e<;>cases e
       ·split at e
        ·cases e;exact⟨_,rfl⟩
        ·cases e
       ·cases e
      ·cases e
     ·cases e
    ·cases e
   ·cases e
  obtain⟨j,rfl⟩:=ht;obtain⟨μ0,rfl,rfl⟩:=Tr e;rw[Ty (.inr ⟨j,rfl⟩) (Tv j),←h];rfl
 ·exact h
end K24
namespace K24
open PySem L2 Mi
noncomputable def DA:List D->M D:=Aj .all 2 2 (Fg)
noncomputable def Dd:List D->M D:=KN 7 2 (Gj)
noncomputable def KG:List D->M D:=Aj .all 4 4 (J3)
noncomputable def Dy:List D->M D:=Aj .drop 9 2 (GA KG)
noncomputable def Ml:List D->M D:=Aj .all 6 5 (MP)
noncomputable def Dz:List D->M D:=Aj .drop 15 2 (GB Ml)
noncomputable def C9:Nat->List D->M D
 |0=>λ_=>BK
 |n+1=>Aj .frz 3 1 (Ee (C9 n))
noncomputable def Ep:List D->M D:=Aj .frz 4 1 (Ed (C9 6))
noncomputable def Ct:List D->M D:=Aj .drop 3 1 (Cr Ep)
noncomputable def Ck:List D->M D:=Aj .all 4 2 (EF Ct)
noncomputable def FW:List D->M D:=Aj .all 2 1 (FP)
noncomputable def FU:List D->M D:=Aj .all 3 1 (FM FW)
noncomputable def BY:List D->M D:=Aj .drop 1 1 (FN Ck FU)
noncomputable def Im:List D->M D:=Aj .all 3 3 (IQ)
noncomputable def Il:List D->M D:=Aj .all 3 3 (IP)
noncomputable def CZ:List D->M D:=Aj .all 3 3 (FS)
noncomputable def Ij:List D->M D:=Aj .all 3 3 (IM CZ)
noncomputable def Ik:List D->M D:=Aj .frz 6 2 (IN Ij)
noncomputable def KF:List D->M D:=Aj .all 4 3 (Jy Im Il Ik)
noncomputable def BC:List D->M D:=Aj .all 3 3 (F5)
noncomputable def Dx:List D->M D:=Aj .all 3 3 (F8 BC)
noncomputable def Es:List D->M D:=Aj .all 4 1 (Ef BC)
noncomputable def KD:List D->M D:=Aj .all 6 1 (Jx Es)
noncomputable def Et:List D->M D:=Aj .drop 1 1 (ML KD)
noncomputable def Ew:List D->M D:=Aj .all 4 4 (MN)
noncomputable def Eu:List D->M D:=Aj .all 4 3 (Eg Dx Et Ew)
noncomputable def GG:List D->M D:=Aj .all 3 3 (F7 BC)
noncomputable def DQ:List D->M D:=Aj .all 4 3 (FQ GG)
noncomputable def EI:List D->M D:=Aj .all 2 2 (EC DQ Et)
noncomputable def FV:List D->M D:=Aj .all 4 3 (FO Dx Et Ew BC)
noncomputable def GF:List D->M D:=Aj .all 5 4 (F6 DQ Et BC)
noncomputable def Ev:List D->M D:=Aj .all 5 3 (Eh Eu EI FV GF)
noncomputable def Cj:List D->M D:=Aj .all 6 5 (EE Ev)
noncomputable def Bp:List D->M D:=Aj .all 5 4 (Cc)
noncomputable def HN:List D->M D:=Aj .drop 10 5 (HG Bp f_followed (f_number_of 6))
noncomputable def FX:List D->M D:=Aj .all 6 5 (FR HN)
noncomputable def DI:List D->M D:=Aj .all 3 3 (HF BC)
noncomputable def GH:List D->M D:=Aj .all 4 4 (MM)
noncomputable def E8:List D->M D:=Aj .all 10 5 (Jz FX DI GH Cj)
noncomputable def Pe:List D->M D:=Aj .all 7 3 (PN Cj E8)
noncomputable def Bm:List D->M D:=Aj .all 2 2 (ED)
noncomputable def Gz:List D->M D:=Aj .all 2 2 (J2)
noncomputable def W9:List D->M D:=Aj .all 12 4 (Wq Bm Ew Gz DI BC E8)
noncomputable def Er:List D->M D:=Aj .all 7 5 (HH BC E8)
noncomputable def GI:List D->M D:=Aj .all 7 5 (F9 CZ Bm Ew BC)
noncomputable def W8:List D->M D:=Aj .all 10 4 (Wo Bm Bp (f_number_of 6) GH Er GI BC Gz DI)
noncomputable def Pd:List D->M D:=Aj .all 7 3 (PM Pe GH CZ W9 W8 Bm Er)
noncomputable def Db:List D->M D:=Aj .drop 5 3 (Jw Ck KF Pd)
noncomputable def C0:List D->M D:=Aj .drop 7 2 (HW BY Db)
noncomputable def Mj:List D->M D:=Aj .drop 12 1 (Wp DA Dd Dy Dz C0)
structure Al(w:World)(K:PySem.W.Frag)(mg:Str->Option Value)(h:Heap):Prop where
 X:K.In h
 G:h.Ns mainGlobals mg
 e0:∃f fd,Df K "_law_cell_at" IA f fd
 e1:∃f fd,Df K "_law_stream" Jo f fd
 e2:∃f fd,Df K "_law_writes" Jn f fd
 e3:∃f fd,Df K "_law_put_cases" Fz f fd
 e4:∃f fd,Df K "_law_reads" Lv f fd
 e5:∃f fd,Df K "_law_get_cases" F0 f fd
 e6:∃f fd,Df K "variables_in" EU f fd
 e7:∃f fd,Df K "variables_of" ET f fd
 e8:∃f fd,Df K "variables_of_rows" Cp f fd
 e9:∃C f fd,Di K "Plan" "Plan.__init__" EA C f fd
 e10:∃f fd,Df K "claim_begun" FI f fd
 e11:∃f fd,Df K "stand_begun" FF f fd
 e12:∃f fd,Df K "first_stand" FG f fd
 e13:∃f fd,Df K "is_tuple" Hz f fd
 e14:∃f fd,Df K "is_whole" Hy f fd
 e15:∃C f fd,Dm K "Plan" "row_at" "Plan.row_at" FL C f fd
 e16:∃f fd,Df K "picks_of" Hv f fd
 e17:∃f fd,Df K "moves_of" Hw f fd
 e18:∃f fd,Df K "move_of" Jk f fd
 e19:∃f fd,Df K "with_thing" Ft f fd
 e20:∃f fd,Df K "case_begun" Fx f fd
 e21:∃f fd,Df K "moments_from" EV f fd
 e22:∃f fd,Df K "reached" Jj f fd
 e23:∃f fd,Df K "closed" Lr f fd
 e24:∃f fd,Df K "beside" Lu f fd
 e25:∃f fd,Df K "claim_writes" EW f fd
 e26:∃f fd,Df K "case_ended" Fw f fd
 e27:∃f fd,Df K "cases_ended" FJ f fd
 e28:∃f fd,Df K "claim_written" D7 f fd
 e29:∃f fd,Df K "claim_reads" FH f fd
 e30:∃f fd,Df K "claim_told" Fv f fd
 e31:∃f fd,Df K "claim_behind" EX f fd
 e32:∃C f fd,Dm K "Plan" "claim_on" "Plan.claim_on" D9 C f fd
 e33:∃C f fd,Dm K "Plan" "named_numbers" "Plan.named_numbers" Ca C f fd
 e34:∃f fd,Df K "one_where" HD f fd
 e35:∃f fd,Df K "number_of_pair" DV f fd
 e36:∃f fd,Df K "number_of" HE f fd
 e37:∃f fd,Df K "row_behind" Fu f fd
 e38:∃f fd,Df K "followed" H9 f fd
 e39:∃f fd,Df K "way_found" HB f fd
 e40:∃C f fd,Dm K "Plan" "way_on" "Plan.way_on" FK C f fd
 e41:∃f fd,Df K "with_hand" HA f fd
 e42:∃f fd,Df K "broken" Ls f fd
 e43:∃f fd,Df K "gone_on" Jl f fd
 e44:∃f fd,Df K "begun" Ou f fd
 e45:∃C f fd,Dm K "Plan" "place_of" "Plan.place_of" D8 C f fd
 e46:∃f fd,Df K "between" Jm f fd
 e47:∃f fd,Df K "got" Wd f fd
 e48:∃f fd,Df K "put_ended" HC f fd
 e49:∃f fd,Df K "beside_put" Fy f fd
 e50:∃f fd,Df K "put" Wb f fd
 e51:∃f fd,Df K "moved" Ot f fd
 e52:∃f fd,Df K "stepped" Ji f fd
 e53:∃f fd,Df K "_law_walk" Ov f fd
 e54:∃f fd,Df K "law" Wc f fd
 e55:∃C,Dc K "Plan" WF C
 y0:mg "bool" = none
 y1:mg "dict" = none
 y2:mg "enumerate" = none
 y3:mg "int" = none
 y4:mg "isinstance" = none
 y5:mg "len" = none
 y6:mg "list" = none
 y7:mg "max" = none
 y8:mg "min" = none
 y9:mg "range" = none
 y10:mg "set" = none
 y11:mg "sorted" = none
 y12:mg "tuple" = none
 y13:mg "zip" = none
 g0:Glo K mg "GREATEST" DB
 g1:Glo K mg "HAD" UC
 g2:Glo K mg "IDLE" Ir
 g3:Glo K mg "NONE" CT
 g4:Glo K mg "UNCOUNTED" Cf
 g5:Glo K mg "WAITS" LH
 g6:Yu w K mg "PARTS" Oc
section
variable{P:Program}{w:World}{K:PySem.W.Frag}{mg:Str->Option Value}{base h:Heap}(a:Al w K mg h)
include a
theorem OR:Fn P w K mg base "_law_cell_at" ["_law_script", "_law_k"] 1 (DA):=by
 obtain⟨f,fd,d⟩:=a.e0;exact Af (k:=0) .all d.F sc_Lcell_at (PySem.W.mg_of a.X a.G d.a) (d.F.binds λ_ _ _ _ _ _=>lq2 λ_ _=>rfl) (λ_ _ _ _ _ _ hr=>by have nd:=sc_Lcell_at.nd;unfold Fg;wtm_at "c";exact(AH (Ar (AY Vs (AC 1) (BE FY a.y5 Mi.B2 (AA (AC 0) AE))) (AO (AU (AR AS (AC 0) (AC 1)))) Ad) (AO (AU AG))))
theorem RL:Fn P w K mg base "_law_stream" ["_law_cell", "_law_size"] 1 (Dd):=by
 obtain⟨f,fd,d⟩:=a.e1;exact Tz (k:=0) d.F sc_Lstream (PySem.W.mg_of a.X a.G d.a) (d.F.binds λ_ _ _ _ _ _=>lq2 λ_ _=>rfl) (λ_ _ _ _ _ _ hr=>by have nd:=sc_Lstream.nd;unfold Gj;wtm_at "c";exact(AH (AW 2 nd (Cv AE)) (AH (Ar (AY Vu (AC 0) (Ah Z3 AG AG)) (AH (AW 3 nd (Ah IL (AC 0) AG)) (AH (CQ PassesOwn.never rfl (E6 a.y9 (AA (AC 1) AE)) (DG 4 nd) (AH (Ap (Ai PySem.F.slot_list_append PySem.F.type_list_append Am (AC 2) (AA (Ah Bg (AC 3) AG) AE))) (AO (AW 3 nd (Ah IL (AC 3) AG))))) (AO (AU (Xq (AC 2) (Wf Wk AG)))))) Ad) (AH (AW 5 nd (Ah Bg (Ah F3 (Ah A6 (Ah Bg (AC 0) AG) AG) AG) AG)) (AH (AW 6 nd (Ah Bg (Ah F3 (Ah A6 (Ah Bg (AC 0) AG) AG) AG) AG)) (AH (CQ PassesOwn.never rfl (E6 a.y9 (AA (AC 1) AE)) (DG 4 nd) (AH (AW 5 nd (Ah A6 (Ah A6 (Ah Bg (Ah F3 (AC 5) (Ah A6 (Ah IL (AC 5) AG) AG)) AG) (AC 4)) AG)) (AH (AW 6 nd (Ah Bg (Ah F3 (AC 6) AG) AG)) (AO (Ap (Ai PySem.F.slot_list_append PySem.F.type_list_append Am (AC 2) (AA (Ah A6 (AC 5) (AC 6)) AE))))))) (AO (AU (AC 2)))))))))
theorem A8:Fn P w K mg base "_law_writes" ["_law_kind", "_law_size", "_law_within", "_law_rows"] 1 (KG):=by
 obtain⟨f,fd,d⟩:=a.e2;exact Af (k:=0) .all d.F sc_Lwrites (PySem.W.mg_of a.X a.G d.a) (d.F.binds λ_ _ _ _ _ _=>lq4 λ_ _ _ _=>rfl) (λ_ _ _ _ _ _ hr=>by have nd:=sc_Lwrites.nd;unfold J3;wtm_at "c";exact(AO (AU (AM (AA AK (AA AG (AA AG (AA (AM (AA (AM (AA AK (AA (AC 0) (AA (AC 1) (AA AG (AA AK AE)))))) AE)) (AA (AM (AA (AM (AA AK (AA (AC 2) (AA (Bc C1 a.y12 Mi.BQ (AA (AC 3) AE)) AE)))) (AA (AM (AA AK (AA AG (AA (AM (AA (AM (AA AK (AA (AM (AA AK (AA AG AE))) AE))) AE)) AE)))) AE))) AE)))))))))
theorem LS:Fn P w K mg base "_law_put_cases" ["_law_n", "_law_two"] 2 (Dy):=by
 obtain⟨f,fd,d⟩:=a.e3;exact Af (k:=1) .drop d.F sc_Lput_cases (PySem.W.mg_of a.X a.G d.a) (d.F.binds λ_ _ _ _ _ _=>lq2 λ_ _=>rfl) (λ_ _ _ _ _ _ hr=>by have nd:=sc_Lput_cases.nd;unfold GA;wtm_at "c";exact(AH (AW 2 nd (AR AS (Ac (AA AK (AA AK AE))) (AC 1))) (AH (AW 3 nd (AM (AA AK (AA AK (AA (AM (AA AK (AA AK AE))) AE))))) (AH (AW 4 nd (Ac (AA (AM (AA AK (AA (AC 0) AE))) (AA (AM (AA AK (AA AG AE))) (AA (AM (AA AK (AA AG AE))) AE))))) (AH (AW 5 nd (Cv (AA (AM (AA (Aa (A8 a) hr (AA (AC 2) (AA AG (AA AG (AA (Ac (AA (AC 3) AE)) AE))))) (AA (BH (AC 4) A4 (A3 AG)) (AA (AM (AA AK (AA AK AE))) (AA (Ac AE) AE))))) AE))) (AH (Ap (Ai PySem.F.slot_list_append PySem.F.type_list_append Am (AC 5) (AA (AM (AA (Aa (A8 a) hr (AA (AC 2) (AA AG (AA AG (AA (Ac (AA (AC 3) AE)) AE))))) (AA (AC 4) (AA (AM (AA AK (AA AK AE))) (AA (Ac AE) AE))))) AE))) (AH (Ap (Ai PySem.F.slot_list_append PySem.F.type_list_append Am (AC 5) (AA (AM (AA (Aa (A8 a) hr (AA (AC 2) (AA AG (AA AG (AA (Ac (AA (AC 3) AE)) AE))))) (AA (AC 4) (AA An (AA (Ac AE) AE))))) AE))) (AH (Ap (Ai PySem.F.slot_list_append PySem.F.type_list_append Am (AC 5) (AA (AM (AA (Aa (A8 a) hr (AA (AC 2) (AA AG (AA AG (AA (Ac (AA (AC 3) (AA (AC 3) AE))) AE))))) (AA (Ah A6 (AC 4) (Ac (AA (AM (AA AK (AA AG AE))) (AA (AM (AA AK (AA AG AE))) AE)))) (AA (AM (AA AK (AA AK AE))) (AA (Ac AE) AE))))) AE))) (AH (Ap (Ai PySem.F.slot_list_append PySem.F.type_list_append Am (AC 5) (AA (AM (AA (Aa (A8 a) hr (AA AK (AA AG (AA AG (AA (Ac (AA (AC 3) AE)) AE))))) (AA (BH (AC 4) A4 (A3 AG)) (AA (AM (AA AK (AA AK AE))) (AA (Ac AE) AE))))) AE))) (AH (Ap (Ai PySem.F.slot_list_append PySem.F.type_list_append Am (AC 5) (AA (AM (AA (Aa (A8 a) hr (AA AK (AA AG (AA AG (AA (Ac (AA (AC 3) AE)) AE))))) (AA (BH (AC 4) A4 (A3 AG)) (AA An (AA (Ac AE) AE))))) AE))) (AH (Ap (Ai PySem.F.slot_list_append PySem.F.type_list_append Am (AC 5) (AA (AM (AA (Aa (A8 a) hr (AA (AC 2) (AA (BE (UO rfl) a.y7 Mi.JA (AA AG (AA (Ah A6 (AC 0) AG) AE))) (AA AG (AA (Ac (AA (AC 3) AE)) AE))))) (AA (AC 4) (AA An (AA (Ac AE) AE))))) AE))) (AH (Ap (Ai PySem.F.slot_list_append PySem.F.type_list_append Am (AC 5) (AA (AM (AA (Aa (A8 a) hr (AA AK (AA (BE (UO rfl) a.y7 Mi.JA (AA AG (AA (Ah A6 (AC 0) AG) AE))) (AA AG (AA (Ac (AA (AC 3) AE)) AE))))) (AA (BH (AC 4) A4 (A3 AG)) (AA An (AA (Ac AE) AE))))) AE))) (AH (Ar (AY bn (AC 0) AG) (AH (Ap (Ai PySem.F.slot_list_append PySem.F.type_list_append Am (AC 5) (AA (AM (AA (Aa (A8 a) hr (AA (AC 2) (AA (AC 0) (AA AG (AA (Ac (AA (AC 3) AE)) AE))))) (AA (BH (AC 4) A4 (A3 AG)) (AA (AM (AA AK (AA AK AE))) (AA (Ac AE) AE))))) AE))) (AH (Ap (Ai PySem.F.slot_list_append PySem.F.type_list_append Am (AC 5) (AA (AM (AA (Aa (A8 a) hr (AA AK (AA (AC 0) (AA AG (AA (Ac (AA (AM (AA AK (AA AG AE))) (AA (AC 3) AE))) AE))))) (AA (BH (AC 4) A4 (A3 AG)) (AA (AM (AA AK (AA AK AE))) (AA (Ac AE) AE))))) AE))) (AO (Ap (Ai PySem.F.slot_list_append PySem.F.type_list_append Am (AC 5) (AA (AM (AA (Aa (A8 a) hr (AA (AC 2) (AA (AC 0) (AA AG (AA (Ac (AA (AC 3) AE)) AE))))) (AA (BH (AC 4) A4 (A3 AG)) (AA (AM (AA AK (AA AK AE))) (AA (Ac AE) AE))))) AE)))))) Ad) (AH (Ar (AY (Az hr) (Ah Bg (AC 0) AG) AG) (AH (AW 6 nd (Ah A6 (Ah F3 (Ac (AA (AM (AA AK (AA AK (AA (AM (AA AK (AA (AC 0) AE))) AE)))) AE)) (AC 1)) (Ac (AA (AC 3) (AA (AM (AA AK (AA AG AE))) AE))))) (AH (AW 7 nd (Ah A6 (BH (AC 4) A4 (A3 AG)) (Ah F3 (Ac (AA (AM (AA AK (AA AG AE))) AE)) AG))) (AH (Ap (Ai PySem.F.slot_list_append PySem.F.type_list_append Am (AC 5) (AA (AM (AA (Aa (A8 a) hr (AA AK (AA AG (AA AG (AA (AC 6) AE))))) (AA (BH (AC 7) A4 (A3 (Wf Wk AG))) (AA An (AA (Ac AE) AE))))) AE))) (AH (Ap (Ai PySem.F.slot_list_append PySem.F.type_list_append Am (AC 5) (AA (AM (AA (Aa (A8 a) hr (AA AK (AA AG (AA AG (AA (AC 6) AE))))) (AA (AC 7) (AA (AM (AA AK (AA AK AE))) (AA (Ac AE) AE))))) AE))) (AO (Ap (Ai PySem.F.slot_list_append PySem.F.type_list_append Am (AC 5) (AA (AM (AA (Aa (A8 a) hr (AA AK (AA AG (AA AG (AA (Ah A6 (Ah F3 (Ac (AA (AM (AA AK (AA AK (AA (AM (AA AK (AA (AC 0) AE))) AE)))) AE)) AG) (Ac (AA (AC 3) AE))) AE))))) (AA (BH (AC 4) A4 (A3 AG)) (AA An (AA (Ac AE) AE))))) AE)))))))) Ad) (AH (AW 8 nd (Ac (AA (AM (AA AK (AA AK (AA (AM (AA AK (AA (AM (AA AK (AA AG AE))) (AA (AM (AA AK (AA AK AE))) AE)))) AE)))) (AA (AM (AA AK (AA AG AE))) AE)))) (AH (Ap (Ai PySem.F.slot_list_append PySem.F.type_list_append Am (AC 5) (AA (AM (AA (Aa (A8 a) hr (AA (AC 2) (AA AG (AA AG (AA (AC 8) AE))))) (AA (BH (AC 4) A4 (A3 AG)) (AA (AM (AA AK (AA AK AE))) (AA (Ac (AA (AM (AA AK (AA AK (AA (AC 0) AE)))) AE)) AE))))) AE))) (AH (Ap (Ai PySem.F.slot_list_append PySem.F.type_list_append Am (AC 5) (AA (AM (AA (Aa (A8 a) hr (AA (AC 2) (AA AG (AA AG (AA (Ac (AA (AC 3) (AA (AM (AA AK (AA AG AE))) AE))) AE))))) (AA (AC 4) (AA (AM (AA AK (AA AK AE))) (AA (Ac AE) AE))))) AE))) (AH (AW 8 nd (Ac (AA (AM (AA AK (AA AK (AA (AM (AA AK (AA (AM (AA AK (AA AK AE))) (AA (AM (AA AK (AA AG AE))) AE)))) AE)))) (AA (AM (AA AK (AA (AM (AA AK (AA (AM (AA AK (AA AK AE))) (AA (AM (AA AK (AA AG AE))) AE)))) (AA AG AE)))) AE)))) (AO (AU (Ah K1 (AC 5) (Ac (AA (AM (AA (Aa (A8 a) hr (AA (AC 2) (AA AG (AA AG (AA (AC 8) AE))))) (AA (BH (AC 4) A4 (A3 AG)) (AA An (AA (Ac AE) AE))))) AE)))))))))))))))))))))))
theorem Be:Fn P w K mg base "_law_reads" ["_law_made", "_law_kind", "_law_within", "_law_rows", "_law_begin"] 1 (Ml):=by
 obtain⟨f,fd,d⟩:=a.e4;exact Af (k:=0) .all d.F sc_Lreads (PySem.W.mg_of a.X a.G d.a) (d.F.binds λ_ _ _ _ _ _=>lq5 λ_ _ _ _ _=>rfl) (λ_ _ _ _ _ _ hr=>by have nd:=sc_Lreads.nd;unfold MP;wtm_at "c";exact(AH (AW 5 nd (AM (AA (AM (AA AK (AA AG (AA (AM (AA (AM (AA AK (AA AK (AA (AM (AA AK (AA AK AE))) AE)))) AE)) AE)))) (AA (AM (AA AK (AA (AC 2) (AA (Bc C1 a.y12 Mi.BQ (AA (AC 3) AE)) AE)))) AE)))) (AO (AU (AM (AA (AC 0) (AA AG (AA (AC 4) (AA (AM (AA (AM (AA AK (AA (AC 1) (AA AG (AA (AC 4) (AA AK AE)))))) AE)) (AA (AC 5) AE))))))))))
theorem LT:Fn P w K mg base "_law_get_cases" ["_law_n", "_law_two"] 2 (Dz):=by
 obtain⟨f,fd,d⟩:=a.e5;exact Af (k:=1) .drop d.F sc_Lget_cases (PySem.W.mg_of a.X a.G d.a) (d.F.binds λ_ _ _ _ _ _=>lq2 λ_ _=>rfl) (λ_ _ _ _ _ _ hr=>by have nd:=sc_Lget_cases.nd;unfold GB;wtm_at "c";exact(AH (AW 2 nd (AR AS (Ac (AA AK (AA AK AE))) (AC 1))) (AH (AW 3 nd (AR AS (Ac (AA AK (AA AK (AA AK AE)))) (Ah Bg (AC 0) AG))) (AH (AW 4 nd (AM (AA AK (AA AK (AA AK AE))))) (AH (AW 5 nd (AM (AA AK (AA (AM (AA AK (AA AK AE))) AE)))) (AH (AW 6 nd (Ac (AA (AM (AA AK (AA AG AE))) (AA (AM (AA AK (AA AG AE))) (AA (AM (AA AK (AA (Ah Bg (AC 0) AG) AE))) AE))))) (AH (AW 7 nd (Cv (AA (AM (AA (Aa (Be a) hr (AA (AC 3) (AA (AC 2) (AA AG (AA (Ac (AA (AC 4) (AA (AC 5) AE))) (AA (Ah Bg (AC 0) AG) AE)))))) (AA (AC 6) (AA (AM (AA AK (AA AK AE))) (AA (Ac AE) AE))))) AE))) (AH (Ap (Ai PySem.F.slot_list_append PySem.F.type_list_append Am (AC 7) (AA (AM (AA (Aa (Be a) hr (AA (AC 3) (AA (AC 2) (AA AG (AA (Ac (AA (AC 4) (AA (AC 5) AE))) (AA (Ah Bg (AC 0) AG) AE)))))) (AA (AC 6) (AA An (AA (Ac AE) AE))))) AE))) (AH (Ap (Ai PySem.F.slot_list_append PySem.F.type_list_append Am (AC 7) (AA (AM (AA (Aa (Be a) hr (AA (AC 3) (AA AK (AA AG (AA (Ac (AA (AC 4) (AA (AC 5) AE))) (AA (Ah Bg (AC 0) AG) AE)))))) (AA (BH (AC 6) A4 (A3 AG)) (AA (AM (AA AK (AA AK AE))) (AA (Ac AE) AE))))) AE))) (AH (Ap (Ai PySem.F.slot_list_append PySem.F.type_list_append Am (AC 7) (AA (AM (AA (Aa (Be a) hr (AA (AC 3) (AA AK (AA AG (AA (Ac (AA (AC 4) (AA (AC 5) AE))) (AA (Ah Bg (AC 0) AG) AE)))))) (AA (BH (AC 6) A4 (A3 AG)) (AA An (AA (Ac AE) AE))))) AE))) (AH (Ap (Ai PySem.F.slot_list_append PySem.F.type_list_append Am (AC 7) (AA (AM (AA (Aa (Be a) hr (AA (AC 3) (AA (AC 2) (AA AG (AA (Ac (AA (AC 4) AE)) (AA (Ah Bg (AC 0) AG) AE)))))) (AA (AC 6) (AA (AM (AA AK (AA AK AE))) (AA (Ac AE) AE))))) AE))) (AH (Ap (Ai PySem.F.slot_list_append PySem.F.type_list_append Am (AC 7) (AA (AM (AA (Aa (Be a) hr (AA (AC 3) (AA (AC 2) (AA AG (AA (Ac (AA (AM (AA AK (AA AG AE))) (AA (AC 5) AE))) (AA AG AE)))))) (AA (BH (AC 6) A4 (A3 AG)) (AA (AM (AA AK (AA AK AE))) (AA (Ac (AA (AM (AA AK (AA AK AE))) AE)) AE))))) AE))) (AH (Ap (Ai PySem.F.slot_list_append PySem.F.type_list_append Am (AC 7) (AA (AM (AA (Aa (Be a) hr (AA (AC 3) (AA (AC 2) (AA AG (AA (Ac AE) (AA AG AE)))))) (AA (BH (AC 6) A4 (A3 AG)) (AA (AM (AA AK (AA AK AE))) (AA (Ac (AA (AM (AA AK (AA AK AE))) AE)) AE))))) AE))) (AH (AW 8 nd (AM (AA AK (AA (AM (AA AK (AA (Ah A6 AG (Ah Bg (AC 0) AG)) AE))) AE)))) (AH (Ap (Ai PySem.F.slot_list_append PySem.F.type_list_append Am (AC 7) (AA (AM (AA (Aa (Be a) hr (AA (AC 3) (AA (AC 2) (AA AG (AA (Ac (AA (AC 8) AE)) (AA AG AE)))))) (AA (BH (AC 6) A4 (A3 AG)) (AA (AM (AA AK (AA AK AE))) (AA (Ac (AA (AM (AA AK (AA AK AE))) AE)) AE))))) AE))) (AH (AW 9 nd (AM (AA AK (AA (AM (AA AK (AA (Ah Bg (Ah A6 (AC 0) AG) AG) AE))) AE)))) (AH (AW 10 nd (Ac (AA (AM (AA AK (AA AK AE))) (AA (AM (AA AK (AA AK (AA (Ah Bg (Ah A6 (AC 0) AG) AG) AE)))) AE)))) (AH (Ap (Ai PySem.F.slot_list_append PySem.F.type_list_append Am (AC 7) (AA (AM (AA (Aa (Be a) hr (AA (AC 3) (AA (AC 2) (AA AG (AA (Ac (AA (AC 9) AE)) (AA (Ah Bg (AC 0) AG) AE)))))) (AA (BH (AC 6) A4 (A3 AG)) (AA (AM (AA AK (AA AK AE))) (AA (AC 10) AE))))) AE))) (AH (Ap (Ai PySem.F.slot_list_append PySem.F.type_list_append Am (AC 7) (AA (AM (AA (Aa (Be a) hr (AA (AC 3) (AA (AC 2) (AA AG (AA (Ac (AA (AC 4) (AA (AC 9) AE))) (AA (Ah Bg (AC 0) AG) AE)))))) (AA (AC 6) (AA (AM (AA AK (AA AK AE))) (AA (BH (AC 10) (A3 AG) A4) AE))))) AE))) (AH (AW 11 nd (Cv AE)) (AH (CQ PassesOwn.never rfl (E6 a.y9 (AA AG AE)) (DG 12 nd) (AH (Ap (Ai PySem.F.slot_list_append PySem.F.type_list_append Am (AC 11) (AA (AM (AA AK (AA (AR AS AK (AC 12)) (AA (AM (AA AK (AA (AM (AA AK (AA (AR AS AK (AC 12)) AE))) (AA (AM (AA AK (AA AG AE))) AE)))) AE)))) AE))) (AH (Ap (Ai PySem.F.slot_list_append PySem.F.type_list_append Am (AC 11) (AA (AM (AA AK (AA (AM (AA AK (AA (AM (AA AK (AA (AR AS AK (AC 12)) AE))) (AA (AM (AA AK (AA AG AE))) AE)))) (AA AG AE)))) AE))) (AO (Ap (Ai PySem.F.slot_list_append PySem.F.type_list_append Am (AC 11) (AA (AM (AA AK (AA (AR AS AK (AC 12)) (AA (AM (AA AK (AA AG AE))) AE)))) AE))))))) (AH (Ar (AY (Az hr) (Ah Bg (AC 0) AG) AG) (AH (AW 10 nd (Aa (Be a) hr (AA (AC 3) (AA (AC 2) (AA AG (AA (Ah K1 (AC 11) (Ac (AA (AM (AA AK (AA (AM (AA AK (AA (Ah Bg (AC 0) AG) AE))) AE))) AE))) (AA (Ah Bg (AC 0) AG) AE))))))) (AH (Ap (Ai PySem.F.slot_list_append PySem.F.type_list_append Am (AC 7) (AA (AM (AA (AC 10) (AA (BH (AC 6) A4 (A3 AG)) (AA An (AA (Ac AE) AE))))) AE))) (AH (AW 13 nd (Aa (Be a) hr (AA (AC 3) (AA (AC 2) (AA AG (AA (Ah K1 (AC 11) (Ac (AA (AM (AA AK (AA AG AE))) AE))) (AA (Ah Bg (AC 0) AG) AE))))))) (AO (Ap (Ai PySem.F.slot_list_append PySem.F.type_list_append Am (AC 7) (AA (AM (AA (AC 13) (AA (BH (AC 6) A4 (A3 AG)) (AA (AM (AA AK (AA AK AE))) (AA (Ac (AA (AM (AA AK (AA AK AE))) AE)) AE))))) AE))))))) Ad) (AH (AW 14 nd (Aa (Be a) hr (AA (AC 3) (AA (AC 2) (AA AG (AA (Ac (AA (AM (AA AK (AA (AM (AA AK (AA AG AE))) (AA AG AE)))) AE)) (AA AG AE))))))) (AO (AU (Ah K1 (AC 7) (Ac (AA (AM (AA (AC 14) (AA (BH (AC 6) A4 (A3 AG)) (AA (AM (AA AK (AA AK AE))) (AA (Ac (AA (AM (AA AK (AA AK AE))) AE)) AE))))) AE))))))))))))))))))))))))))))
theorem JG(n:Nat):Fn P w K mg base "variables_in" ["expression"] (n+1) (C9 n):=by
 obtain⟨f,fd,d⟩:=a.e6
 induction n with
 |zero=>exact Md d.F (PySem.W.mg_of a.X a.G d.a) (d.F.binds λ_ _ _ _ _ _=>lq1 λ_=>rfl)
 |succ n ih=>exact(Af (k:=n+1) .frz d.F sc_variables_in (PySem.W.mg_of a.X a.G d.a) (d.F.binds λ_ _ _ _ _ _=>lq1 λ_=>rfl) (λ_ _ _ _ _ _ hr=>by have nd:=sc_variables_in.nd;unfold Ee;wtm_at "c";exact(AH (Ar (AY (Az hr) (AR AS (AC 0) AG) AK) (AO (AU (Ac AE))) Ad) (AH (Ar (AY (Az hr) (AR AS (AC 0) AG) AK) (AO (AU (Ac (AA (AR AS (AC 0) AG) AE)))) Ad) (AH (AW 1 nd (Cv AE)) (AH (CQ PassesOwn.never rfl (Bz (BH (AC 0) (A3 AG) A4)) (DG 2 nd) (AO (Ap (Ai PySem.F.slot_list_extend PySem.F.type_list_extend IR (AC 1) (AA (Aa (hkj:=AAF _) ih hr (AA (AC 2) AE)) AE))))) (AO (AU (AC 1))))))))).mono (by omega)
theorem JF:Fn P w K mg base "variables_of" ["row"] 8 (Ep):=by
 obtain⟨f,fd,d⟩:=a.e7;exact Af (k:=7) .frz d.F sc_variables_of (PySem.W.mg_of a.X a.G d.a) (d.F.binds λ_ _ _ _ _ _=>lq1 λ_=>rfl) (λ_ _ _ _ _ _ hr=>by have nd:=sc_variables_of.nd;unfold Ed;wtm_at "c";exact(AH (AW 1 nd (Cv AE)) (AH (CQ PassesOwn.never rfl (VF a.y13 (AA (VI a.g6 (AR AS (AC 0) AG)) (AA (BH (AC 0) (A3 AG) A4) AE))) (EY (is:=[2,3]) rfl (A1 (Aw (i:=2) nd rfl (by first|exact Or.inl rfl|exact Or.inr rfl)) (A1 (Aw (i:=3) nd rfl (by first|exact Or.inl rfl|exact Or.inr rfl)) Cw))) (AH (Ar (AY (Az hr) (AC 2) AK) (AO (Ap (Ai PySem.F.slot_list_append PySem.F.type_list_append Am (AC 1) (AA (AC 3) AE)))) Ad) (AO (Ar (AY (Az hr) (AC 2) AK) (AO (Ap (Ai PySem.F.slot_list_extend PySem.F.type_list_extend IR (AC 1) (AA (Aa (JG a 6) hr (AA (AC 3) AE)) AE)))) Ad)))) (AO (AU (AC 1))))))
theorem FD:Fn P w K mg base "variables_of_rows" ["rows"] 9 (Ct):=by
 obtain⟨f,fd,d⟩:=a.e8;exact Af (k:=8) .drop d.F sc_variables_of_rows (PySem.W.mg_of a.X a.G d.a) (d.F.binds λ_ _ _ _ _ _=>lq1 λ_=>rfl) (λ_ _ _ _ _ _ hr=>by have nd:=sc_variables_of_rows.nd;unfold Cr;wtm_at "c";exact(AH (AW 1 nd (Cv AE)) (AH (CQ PassesOwn.never rfl (Bz (AC 0)) (DG 2 nd) (AO (Ap (Ai PySem.F.slot_list_extend PySem.F.type_list_extend IR (AC 1) (AA (Aa (JF a) hr (AA (AC 2) AE)) AE))))) (AO (AU (Dq (tgs:=["name"]) (ix:=[]) (i:=0) (n:=1) ⟨rfl,by decide +kernel,by decide +kernel,trivial,rfl,by decide +kernel⟩ rfl (Bz (L5 a.y11 a.y10 (AC 1))) (λ_ _ _ _=>Aw (i:=0) (show List.Nodup (["name"]:List Str) from by decide +kernel) rfl (Or.inl rfl)) (λ_ _ _ _=>L4 (AY (DH hr) (AC 0) AK)) (λ_ _ _ _=>(AC 0))))))))
theorem EM:Ini P w K mg base "Plan" ["self", "making"] 10 (Ck):=by
 obtain⟨C,f,fd,d⟩:=a.e9;obtain⟨cG,b9⟩:=a.e55;exact Qr (k:=9) .all d sc_Plan___init__ (PySem.W.mg_of a.X a.G d.at_) (d.F.binds λ_ _ _ _ _ _=>lq2 λ_ _=>rfl) (λ_ _ _ _ _ _ hr=>by have nd:=sc_Plan___init__.nd;unfold EF;wtm_at "c";exact(AH (Ge b9.ca (b9.na "making" (by decide +kernel)) (AC 0) (AC 1)) (AH (Ge b9.ca (b9.na "names" (by decide +kernel)) (AC 0) (Dq (tgs:=["hand"]) (ix:=[]) (i:=0) (n:=1) ⟨rfl,by decide +kernel,by decide +kernel,trivial,rfl,by decide +kernel⟩ rfl (Bz (AR AS (AC 1) AG)) (λ_ _ _ _=>Aw (i:=0) (show List.Nodup (["hand"]:List Str) from by decide +kernel) rfl (Or.inl rfl)) (λ_ _ _ _=>CH) (λ_ _ _ _=>(AR AS (AC 0) AG)))) (AH (Ge b9.ca (b9.na "variables" (by decide +kernel)) (AC 0) (Dq (tgs:=["hand"]) (ix:=[]) (i:=0) (n:=1) ⟨rfl,by decide +kernel,by decide +kernel,trivial,rfl,by decide +kernel⟩ rfl (Bz (AR AS (AC 1) AG)) (λ_ _ _ _=>Aw (i:=0) (show List.Nodup (["hand"]:List Str) from by decide +kernel) rfl (Or.inl rfl)) (λ_ _ _ _=>CH) (λ_ _ _ _=>(Aa (FD a) hr (AA (AR AS (AC 0) AG) AE))))) (AH (Ge b9.ca (b9.na "places" (by decide +kernel)) (AC 0) VM) (AH (CQ PassesOwn.never rfl (F2 a.y2 (AA (AR AS (AC 1) AG) AE)) (EY (is:=[2,3]) rfl (A1 (Aw (i:=2) nd rfl (by first|exact Or.inl rfl|exact Or.inr rfl)) (A1 (Aw (i:=3) nd rfl (by first|exact Or.inl rfl|exact Or.inr rfl)) Cw))) (AO (Ko hr (BB b9.ca (b9.na "places" (by decide +kernel)) (AC 0)) (AR AS (AC 3) AG) (AC 2)))) (AH (Ge b9.ca (b9.na "ways" (by decide +kernel)) (AC 0) L6) (AO (Ge b9.ca (b9.na "claims" (by decide +kernel)) (AC 0) L6)))))))))
theorem Ja:Fn P w K mg base "claim_begun" ["making"] 1 (FW):=by
 obtain⟨f,fd,d⟩:=a.e10;exact Af (k:=0) .all d.F sc_claim_begun (PySem.W.mg_of a.X a.G d.a) (d.F.binds λ_ _ _ _ _ _=>lq1 λ_=>rfl) (λ_ _ _ _ _ _ hr=>by have nd:=sc_claim_begun.nd;unfold FP;wtm_at "c";exact(AH (AW 1 nd (Ah IK (BE FY a.y5 Mi.B2 (AA (AR AS (AC 0) AG) AE)) AG)) (AH (Ar (AY (Az hr) (AR AS (AC 0) AG) AK) (AO (AU (AM (AA (AM (AA (AR AS (AC 0) AG) (AA (Bo a.g3) (AA (Ah Ni (AM (AA (Bo a.g3) AE)) (AC 1)) AE)))) AE)))) Ad) (AO (AU (AM (AA (AR AS (AC 0) AG) (AA (Bo a.g3) (AA (Ah Ni (AM (AA An AE)) (AC 1)) AE)))))))))
theorem JX:Fn P w K mg base "stand_begun" ["plan"] 2 (FU):=by
 obtain⟨f,fd,d⟩:=a.e11;obtain⟨cG,b9⟩:=a.e55;exact Af (k:=1) .all d.F sc_stand_begun (PySem.W.mg_of a.X a.G d.a) (d.F.binds λ_ _ _ _ _ _=>lq1 λ_=>rfl) (λ_ _ _ _ _ _ hr=>by have nd:=sc_stand_begun.nd;unfold FM;wtm_at "c";exact(AH (Dp 1 (tgs:=["names"]) (ix:=[]) (i:=0) (n:=1) nd ⟨rfl,by decide +kernel,by decide +kernel,trivial,rfl,by decide +kernel⟩ rfl (Bz (BB b9.ca (b9.na "variables" (by decide +kernel)) (AC 0))) (λ_ _ _ _=>Aw (i:=0) (show List.Nodup (["names"]:List Str) from by decide +kernel) rfl (Or.inl rfl)) (λ_ _ _ _=>CH) (λ_ _ _ _=>(AM (AA (Bo a.g2) (AA An (AA AG (AA AG (AA (Ah Ni (AM (AA AG AE)) (BE FY a.y5 Mi.B2 (AA (AC 0) AE))) AE))))))) (λ_ _ _ _ _ _ _ _ R i e q=>CY R i e q)) (AH (Dp 2 (tgs:=["box"]) (ix:=[]) (i:=0) (n:=1) nd ⟨rfl,by decide +kernel,by decide +kernel,trivial,rfl,by decide +kernel⟩ rfl (Bz (AR AS (BB b9.ca (b9.na "making" (by decide +kernel)) (AC 0)) AG)) (λ_ _ _ _=>Aw (i:=0) (show List.Nodup (["box"]:List Str) from by decide +kernel) rfl (Or.inl rfl)) (λ_ _ _ _=>CH) (λ_ _ _ _=>(AM (AA (AR AS (AC 0) AG) (AA (Bo a.g3) AE)))) (λ_ _ _ _ _ _ _ _ R i e q=>CY R i e q)) (AO (AU (AM (AA (Bc C1 a.y12 Mi.BQ (AA (AC 1) AE)) (AA (Bc C1 a.y12 Mi.BQ (AA (AC 2) AE)) (AA (Aa (Ja a) hr (AA (BB b9.ca (b9.na "making" (by decide +kernel)) (AC 0)) AE)) AE)))))))))
theorem JY:Fn P w K mg base "first_stand" ["making"] 12 (BY):=by
 obtain⟨f,fd,d⟩:=a.e12;exact Af (k:=11) .drop d.F sc_first_stand (PySem.W.mg_of a.X a.G d.a) (d.F.binds λ_ _ _ _ _ _=>lq1 λ_=>rfl) (λ_ _ _ _ _ _ hr=>by have nd:=sc_first_stand.nd;unfold FN;wtm_at "c";exact(AO (AU (Aa (JX a) hr (AA (O3 (EM a) hr (AA (AC 0) AE)) AE)))))
theorem OP:Fn P w K mg base "is_tuple" ["thing", "least", "most"] 1 (Im):=by
 obtain⟨f,fd,d⟩:=a.e13;exact Af (k:=0) .all d.F sc_is_tuple (PySem.W.mg_of a.X a.G d.a) (d.F.binds λ_ _ _ _ _ _=>lq3 λ_ _ _=>rfl) (λ_ _ _ _ _ _ hr=>by have nd:=sc_is_tuple.nd;unfold IQ;wtm_at "c";exact(AO (AU (Kt (BE OE a.y4 Mi.Cn (AA (AC 0) (AA (Ks a.y12 Mi.BQ) AE))) (Kq (L7 Vt Vt (AC 1) (BE FY a.y5 Mi.B2 (AA (AC 0) AE)) (AC 2)))))))
theorem OO:Fn P w K mg base "is_whole" ["thing", "least", "most"] 1 (Il):=by
 obtain⟨f,fd,d⟩:=a.e14;exact Af (k:=0) .all d.F sc_is_whole (PySem.W.mg_of a.X a.G d.a) (d.F.binds λ_ _ _ _ _ _=>lq3 λ_ _ _=>rfl) (λ_ _ _ _ _ _ hr=>by have nd:=sc_is_whole.nd;unfold IP;wtm_at "c";exact(AO (AU (Kt (BE OE a.y4 Mi.Cn (AA (AC 0) (AA (Ks a.y3 Mi.UT) AE))) (Kt (Xr (BE OE a.y4 Mi.Cn (AA (AC 0) (AA (Ks a.y0 Mi.RC) AE)))) (Kq (L7 Vt Vt (AC 1) (AC 0) (AC 2))))))))
theorem DT:Mth P w K mg base "Plan" "row_at" ["self", "number", "at"] 1 (CZ):=by
 obtain⟨C,f,fd,d⟩:=a.e15;obtain⟨cG,b9⟩:=a.e55;exact DY (k:=0) .all d sc_Plan_row_at (d.F.binds λ_ _ _ _ _ _=>lq3 λ_ _ _=>rfl) (λ_ _ _ _ _ _ hr=>by have nd:=sc_Plan_row_at.nd;unfold FS;wtm_at "c";exact(AO (AU (AR AS (AR AS (AR AS (AR AS (BB b9.ca (b9.na "making" (by decide +kernel)) (AC 0)) AG) (AC 1)) AG) (AC 2)))))
theorem OM:Fn P w K mg base "picks_of" ["plan", "number", "hand"] 2 (Ij):=by
 obtain⟨f,fd,d⟩:=a.e16;obtain⟨cG,b9⟩:=a.e55;exact Af (k:=1) .all d.F sc_picks_of (PySem.W.mg_of a.X a.G d.a) (d.F.binds λ_ _ _ _ _ _=>lq3 λ_ _ _=>rfl) (λ_ _ _ _ _ _ hr=>by have nd:=sc_picks_of.nd;unfold IM;wtm_at "c";exact(AH (Ar (AY (Az hr) (AR AS (AC 2) AG) (Bo a.g2)) (AO (AU (Cq (AY (Az hr) (AC 1) AG) (Jq a.y12 a.y9 (AR AS (BB b9.ca (b9.na "making" (by decide +kernel)) (AC 0)) AG)) (AM (AA AG AE))))) Ad) (AH (Ar (RW.rt (Fc (AY F4 (AR AS (AC 2) AG) An) (Do (AY (Az hr) (AR AS (B3 (DT a) hr (AC 0) (AA (AC 1) (AA (AR AS (AC 2) AG) AE))) AG) AK)))) (AO (AU (AR AS (AC 2) AG))) Ad) (AO (AU (AM (AA AG AE)))))))
theorem ON:Fn P w K mg base "moves_of" ["plan", "stand"] 3 (Ik):=by
 obtain⟨f,fd,d⟩:=a.e17;exact Af (k:=2) .frz d.F sc_moves_of (PySem.W.mg_of a.X a.G d.a) (d.F.binds λ_ _ _ _ _ _=>lq2 λ_ _=>rfl) (λ_ _ _ _ _ _ hr=>by have nd:=sc_moves_of.nd;unfold IN;wtm_at "c";exact(AH (AW 2 nd (Cv AE)) (AH (CQ PassesOwn.never rfl (F2 a.y2 (AA (AR AS (AC 1) AG) AE)) (EY (is:=[3,4]) rfl (A1 (Aw (i:=3) nd rfl (by first|exact Or.inl rfl|exact Or.inr rfl)) (A1 (Aw (i:=4) nd rfl (by first|exact Or.inl rfl|exact Or.inr rfl)) Cw))) (AO (CQ PassesOwn.never rfl (Bz (Aa (OM a) hr (AA (AC 0) (AA (AC 3) (AA (AC 4) AE))))) (DG 5 nd) (AO (Ap (Ai PySem.F.slot_list_append PySem.F.type_list_append Am (AC 2) (AA (AM (AA (AC 3) (AA (AC 5) AE))) AE))))))) (AO (AU (AC 2))))))
theorem RK:Fn P w K mg base "move_of" ["plan", "stand", "step"] 4 (KF):=by
 obtain⟨f,fd,d⟩:=a.e18;obtain⟨cG,b9⟩:=a.e55;exact Af (k:=3) .all d.F sc_move_of (PySem.W.mg_of a.X a.G d.a) (d.F.binds λ_ _ _ _ _ _=>lq3 λ_ _ _=>rfl) (λ_ _ _ _ _ _ hr=>by have nd:=sc_move_of.nd;unfold Jy;wtm_at "c";exact(AH (Ar (RW.rt (Lw (ST (ID (Aa (OP a) hr (AA (AC 2) (AA AG (AA AG AE)))))) (Lw (AY PB (AR AS (AC 2) AG) (BB b9.ca (b9.na "names" (by decide +kernel)) (AC 0))) (Kn (ST (ID (Aa (OO a) hr (AA (AR AS (AC 2) AG) (AA AG (AA (Bo a.g0) AE)))))))))) (AO (AU An)) Ad) (AH (AW 3 nd (AM (AA (Ai PySem.F.slot_list_index PySem.F.type_list_index MK (BB b9.ca (b9.na "names" (by decide +kernel)) (AC 0)) (AA (AR AS (AC 2) AG) AE)) (AA (AR AS (AC 2) AG) AE)))) (AO (AU (Cq (AY (Z4 hr) (AC 3) (Aa (ON a) hr (AA (AC 0) (AA (AC 1) AE)))) (AC 3) An))))))
theorem BI:Fn P w K mg base "with_thing" ["things", "place", "thing"] 1 (BC):=by
 obtain⟨f,fd,d⟩:=a.e19;exact Af (k:=0) .all d.F sc_with_thing (PySem.W.mg_of a.X a.G d.a) (d.F.binds λ_ _ _ _ _ _=>lq3 λ_ _ _=>rfl) (λ_ _ _ _ _ _ hr=>by have nd:=sc_with_thing.nd;unfold F5;wtm_at "c";exact(AO (AU (Ah A6 (Ah A6 (BH (AC 0) A4 (A3 (AC 1))) (AM (AA (AC 2) AE))) (BH (AC 0) (A3 (Ah A6 (AC 1) AG)) A4)))))
theorem GU:Fn P w K mg base "case_begun" ["case", "hand", "worth"] 2 (Dx):=by
 obtain⟨f,fd,d⟩:=a.e20;exact Af (k:=1) .all d.F sc_case_begun (PySem.W.mg_of a.X a.G d.a) (d.F.binds λ_ _ _ _ _ _=>lq3 λ_ _ _=>rfl) (λ_ _ _ _ _ _ hr=>by have nd:=sc_case_begun.nd;unfold F8;wtm_at "c";exact(AH (Ar (AY (Az hr) (AC 1) AG) (AO (AU (AM (AA (AR AS (AC 0) AG) (AA (AC 2) (AA (AR AS (AC 0) AG) AE)))))) Ad) (AO (AU (AM (AA (AR AS (AC 0) AG) (AA (AR AS (AC 0) AG) (AA (Aa (BI a) hr (AA (AR AS (AC 0) AG) (AA (Ah IK (AC 1) AG) (AA (Bo a.g5) AE)))) AE))))))))
theorem JH:Fn P w K mg base "moments_from" ["case"] 2 (Es):=by
 obtain⟨f,fd,d⟩:=a.e21;exact Af (k:=1) .all d.F sc_moments_from (PySem.W.mg_of a.X a.G d.a) (d.F.binds λ_ _ _ _ _ _=>lq1 λ_=>rfl) (λ_ _ _ _ _ _ hr=>by have nd:=sc_moments_from.nd;unfold Ef;wtm_at "c";exact(AH (AW 1 nd (Cv AE)) (AH (Ar (AY Vu (AR AS (AC 0) AG) AG) (AO (Ap (Ai PySem.F.slot_list_append PySem.F.type_list_append Am (AC 1) (AA (AM (AA AG (AA (AM (AA (AR AS (AC 0) AG) (AA (Bo a.g1) (AA (AR AS (AC 0) AG) AE)))) AE))) AE)))) Ad) (AH (CQ PassesOwn.never rfl (F2 a.y2 (AA (AR AS (AC 0) AG) AE)) (EY (is:=[2,3]) rfl (A1 (Aw (i:=2) nd rfl (by first|exact Or.inl rfl|exact Or.inr rfl)) (A1 (Aw (i:=3) nd rfl (by first|exact Or.inl rfl|exact Or.inr rfl)) Cw))) (AO (Ar (AY (Az hr) (AC 3) (Bo a.g5)) (AO (Ap (Ai PySem.F.slot_list_append PySem.F.type_list_append Am (AC 1) (AA (AM (AA (Ah A6 (AC 2) AG) (AA (AM (AA (AR AS (AC 0) AG) (AA (AR AS (AC 0) AG) (AA (Aa (BI a) hr (AA (AR AS (AC 0) AG) (AA (AC 2) (AA (AR AS (AC 0) AG) AE)))) AE)))) AE))) AE)))) Ad))) (AO (AU (AC 1)))))))
theorem RJ:Fn P w K mg base "reached" ["cases"] 3 (KD):=by
 obtain⟨f,fd,d⟩:=a.e22;exact Af (k:=2) .all d.F sc_reached (PySem.W.mg_of a.X a.G d.a) (d.F.binds λ_ _ _ _ _ _=>lq1 λ_=>rfl) (λ_ _ _ _ _ _ hr=>by have nd:=sc_reached.nd;unfold Jx;wtm_at "c";exact(AH (AW 1 nd Se) (AH (CQ PassesOwn.never rfl (Bz (AC 0)) (DG 2 nd) (AO (Oy hr (AC 1) (AC 2) An))) (AH (AW 3 nd (Bc (WN rfl) a.y6 Mi.Q9 (AA (AC 1) AE))) (AH (Ly BO PassesOwn.never (Ow (AC 3)) (AH (AW 2 nd (Gf PySem.F.slot_list_pop PySem.F.type_list_pop Ta (AC 3))) (AO (U8 1000 PassesOwn.never rfl (Aa (JH a) hr (AA (AC 2) AE)) (EY (is:=[4,5]) rfl (A1 (Aw (i:=4) nd rfl (by first|exact Or.inl rfl|exact Or.inr rfl)) (A1 (Aw (i:=5) nd rfl (by first|exact Or.inl rfl|exact Or.inr rfl)) Cw))) (AO (Ar (AY (TU hr) (AC 5) (AC 1)) (AH (Oy hr (AC 1) (AC 5) (AM (AA (AC 4) (AA (AC 2) AE)))) (AO (Ap (Ai PySem.F.slot_list_append PySem.F.type_list_append Am (AC 3) (AA (AC 5) AE))))) Ad)))))) (AO (AU (AC 1))))))))
theorem GT:Fn P w K mg base "closed" ["cases"] 4 (Et):=by
 obtain⟨f,fd,d⟩:=a.e23;exact Af (k:=3) .drop d.F sc_closed (PySem.W.mg_of a.X a.G d.a) (d.F.binds λ_ _ _ _ _ _=>lq1 λ_=>rfl) (λ_ _ _ _ _ _ hr=>by have nd:=sc_closed.nd;unfold ML;wtm_at "c";exact(AO (AU (Bc C1 a.y12 Mi.BQ (AA (BE (WM hr rfl) a.y11 PyProof.Rows.boot_sorted (AA (Aa (RJ a) hr (AA (AC 0) AE)) AE)) AE)))))
theorem GW:Fn P w K mg base "beside" ["kind", "size", "worths", "coming"] 1 (Ew):=by
 obtain⟨f,fd,d⟩:=a.e24;exact Af (k:=0) .all d.F sc_beside (PySem.W.mg_of a.X a.G d.a) (d.F.binds λ_ _ _ _ _ _=>lq4 λ_ _ _ _=>rfl) (λ_ _ _ _ _ _ hr=>by have nd:=sc_beside.nd;unfold MN;wtm_at "c";exact(AH (Ar (AY (Az hr) (AC 0) AK) (AO (AU (Jq a.y12 a.y9 (AC 1)))) Ad) (AO (AU (Bc C1 a.y12 Mi.BQ (AA (Na a.y11 a.y10 (Ah A6 (AC 2) (AM (AA (AC 3) AE)))) AE))))))
theorem JI:Fn P w K mg base "claim_writes" ["making", "claim", "worth"] 5 (Eu):=by
 obtain⟨f,fd,d⟩:=a.e25;exact Af (k:=4) .all d.F sc_claim_writes (PySem.W.mg_of a.X a.G d.a) (d.F.binds λ_ _ _ _ _ _=>lq3 λ_ _ _=>rfl) (λ_ _ _ _ _ _ hr=>by have nd:=sc_claim_writes.nd;unfold Eg;wtm_at "c";exact(AH (Ar (AY (Az hr) (AR AS (AC 0) AG) AK) (AO (AU (Aa (GT a) hr (AA (Dq (tgs:=["case"]) (ix:=[2]) (i:=0) (n:=1) ⟨rfl,by decide +kernel,by decide +kernel,⟨Or.inl rfl,trivial⟩,rfl,by decide +kernel⟩ rfl (Bz (AC 1)) (λ_ _ _ _=>Aw (i:=0) (show List.Nodup (["case", "worth"]:List Str) from by decide +kernel) rfl (Or.inl rfl)) (λ_ _ _ _=>CH) (λ_ _ _ _=>(Aa (GU a) hr (AA (AC 0) (AA AG (AA (AC 1) AE)))))) AE)))) Ad) (AH (Dp 3 (tgs:=["told"]) (ix:=[0,2]) (i:=0) (n:=1) nd ⟨rfl,by decide +kernel,by decide +kernel,⟨Or.inl rfl,Or.inl rfl,trivial⟩,rfl,by decide +kernel⟩ rfl (Bz (AR AS (AC 1) AG)) (λ_ _ _ _=>Aw (i:=0) (show List.Nodup (["told", "making", "worth"]:List Str) from by decide +kernel) rfl (Or.inl rfl)) (λ_ _ _ _=>CH) (λ_ _ _ _=>(Cq (AY MD (AC 0) An) (AC 0) (Aa (GW a) hr (AA (AR AS (AC 1) AG) (AA (AR AS (AC 1) AG) (AA (AC 0) (AA (AC 2) AE))))))) (λ_ _ _ _ _ _ _ _ R i e q=>CY R i e q)) (AO (AU (AM (AA (AR AS (AC 1) AG) (AA (AC 2) (AA (Bc C1 a.y12 Mi.BQ (AA (AC 3) AE)) AE)))))))))
theorem LQ:Fn P w K mg base "case_ended" ["case", "hand", "worth"] 2 (GG):=by
 obtain⟨f,fd,d⟩:=a.e26;exact Af (k:=1) .all d.F sc_case_ended (PySem.W.mg_of a.X a.G d.a) (d.F.binds λ_ _ _ _ _ _=>lq3 λ_ _ _=>rfl) (λ_ _ _ _ _ _ hr=>by have nd:=sc_case_ended.nd;unfold F7;wtm_at "c";exact(AH (Ar (AY (Az hr) (AC 1) AG) (AO (AU (Cq (AY (Az hr) (AR AS (AC 0) AG) (Bo a.g1)) (AM (AA (AR AS (AC 0) AG) (AA (Bo a.g3) (AA (AR AS (AC 0) AG) AE)))) An))) Ad) (AO (AU (Cq (AY (Az hr) (AR AS (AR AS (AC 0) AG) (Ah IK (AC 1) AG)) (AC 2)) (AM (AA (AR AS (AC 0) AG) (AA (AR AS (AC 0) AG) (AA (Aa (BI a) hr (AA (AR AS (AC 0) AG) (AA (Ah IK (AC 1) AG) (AA (Bo a.g3) AE)))) AE)))) An)))))
theorem FZ:Fn P w K mg base "cases_ended" ["cases", "hand", "worth"] 3 (DQ):=by
 obtain⟨f,fd,d⟩:=a.e27;exact Af (k:=2) .all d.F sc_cases_ended (PySem.W.mg_of a.X a.G d.a) (d.F.binds λ_ _ _ _ _ _=>lq3 λ_ _ _=>rfl) (λ_ _ _ _ _ _ hr=>by have nd:=sc_cases_ended.nd;unfold FQ;wtm_at "c";exact(AH (Dp 3 (tgs:=["case"]) (ix:=[1,2]) (i:=0) (n:=1) nd ⟨rfl,by decide +kernel,by decide +kernel,⟨Or.inl rfl,Or.inl rfl,trivial⟩,rfl,by decide +kernel⟩ rfl (Bz (AC 0)) (λ_ _ _ _=>Aw (i:=0) (show List.Nodup (["case", "hand", "worth"]:List Str) from by decide +kernel) rfl (Or.inl rfl)) (λ_ _ _ _=>CH) (λ_ _ _ _=>(Aa (LQ a) hr (AA (AC 0) (AA (AC 1) (AA (AC 2) AE))))) (λ_ _ _ _ _ _ _ _ R i e q=>CY R i e q)) (AO (AU (Dq (tgs:=["case"]) (ix:=[]) (i:=0) (n:=1) ⟨rfl,by decide +kernel,by decide +kernel,trivial,rfl,by decide +kernel⟩ rfl (Bz (AC 3)) (λ_ _ _ _=>Aw (i:=0) (show List.Nodup (["case"]:List Str) from by decide +kernel) rfl (Or.inl rfl)) (λ_ _ _ _=>L4 (AY F4 (AC 0) An)) (λ_ _ _ _=>(AC 0)))))))
theorem HS:Fn P w K mg base "claim_written" ["making", "claim"] 5 (EI):=by
 obtain⟨f,fd,d⟩:=a.e28;exact Af (k:=4) .all d.F sc_claim_written (PySem.W.mg_of a.X a.G d.a) (d.F.binds λ_ _ _ _ _ _=>lq2 λ_ _=>rfl) (λ_ _ _ _ _ _ hr=>by have nd:=sc_claim_written.nd;unfold EC;wtm_at "c";exact(AH (Ar (AY (Az hr) (AR AS (AC 0) AG) AK) (AO (AU (Aa (GT a) hr (AA (Aa (FZ a) hr (AA (AC 1) (AA AG (AA (Bo a.g3) AE)))) AE)))) Ad) (AO (AU (AM (AA (AR AS (AC 1) AG) (AA (Bo a.g3) (AA (AR AS (AC 1) AG) AE))))))))
theorem JZ:Fn P w K mg base "claim_reads" ["making", "claim", "reader"] 5 (FV):=by
 obtain⟨f,fd,d⟩:=a.e29;exact Af (k:=4) .all d.F sc_claim_reads (PySem.W.mg_of a.X a.G d.a) (d.F.binds λ_ _ _ _ _ _=>lq3 λ_ _ _=>rfl) (λ_ _ _ _ _ _ hr=>by have nd:=sc_claim_reads.nd;unfold FO;wtm_at "c";exact(AH (Ar (AY (Az hr) (AR AS (AC 0) AG) AK) (AO (AU (Aa (GT a) hr (AA (Dq (tgs:=["case"]) (ix:=[2]) (i:=0) (n:=1) ⟨rfl,by decide +kernel,by decide +kernel,⟨Or.inl rfl,trivial⟩,rfl,by decide +kernel⟩ rfl (Bz (AC 1)) (λ_ _ _ _=>Aw (i:=0) (show List.Nodup (["case", "reader"]:List Str) from by decide +kernel) rfl (Or.inl rfl)) (λ_ _ _ _=>CH) (λ_ _ _ _=>(Aa (GU a) hr (AA (AC 0) (AA (Ah A6 (AC 1) AG) (AA (Bo a.g3) AE)))))) AE)))) Ad) (AH (AW 3 nd (AM (AA (AR AS (AC 1) AG) AE))) (AH (Ar (AY (DH hr) (AR AS (AC 1) AG) (Bo a.g3)) (AO (AW 3 nd (Aa (GW a) hr (AA (AR AS (AC 0) AG) (AA (AR AS (AC 0) AG) (AA (AC 3) (AA (AR AS (AC 1) AG) AE))))))) Ad) (AO (AU (AM (AA (AR AS (AC 1) AG) (AA (AR AS (AC 1) AG) (AA (Aa (BI a) hr (AA (AR AS (AC 1) AG) (AA (AC 2) (AA (AC 3) AE)))) AE))))))))))
theorem LP:Fn P w K mg base "claim_told" ["making", "claim", "reader", "worth"] 5 (GF):=by
 obtain⟨f,fd,d⟩:=a.e30;exact Af (k:=4) .all d.F sc_claim_told (PySem.W.mg_of a.X a.G d.a) (d.F.binds λ_ _ _ _ _ _=>lq4 λ_ _ _ _=>rfl) (λ_ _ _ _ _ _ hr=>by have nd:=sc_claim_told.nd;unfold F6;wtm_at "c";exact(AH (Ar (AY (Az hr) (AR AS (AC 0) AG) AK) (AH (AW 4 nd (Aa (FZ a) hr (AA (AC 1) (AA (Ah A6 (AC 2) AG) (AA (AC 3) AE))))) (AO (AU (Cq (Ow (AC 4)) (Aa (GT a) hr (AA (AC 4) AE)) An)))) Ad) (AH (Ar (AY PB (AC 3) (AR AS (AR AS (AC 1) AG) (AC 2))) (AO (AU An)) Ad) (AO (AU (AM (AA (AR AS (AC 1) AG) (AA (AR AS (AC 1) AG) (AA (Aa (BI a) hr (AA (AR AS (AC 1) AG) (AA (AC 2) (AA An AE)))) AE)))))))))
theorem JJ:Fn P w K mg base "claim_behind" ["making", "claim", "act"] 6 (Ev):=by
 obtain⟨f,fd,d⟩:=a.e31;exact Af (k:=5) .all d.F sc_claim_behind (PySem.W.mg_of a.X a.G d.a) (d.F.binds λ_ _ _ _ _ _=>lq3 λ_ _ _=>rfl) (λ_ _ _ _ _ _ hr=>by have nd:=sc_claim_behind.nd;unfold Eh;wtm_at "c";exact(AH (AW 3 nd (EZ (Az hr) (AR AS (AC 2) AG) AK)) (AH (Ar (AY (Az hr) (AR AS (AC 2) AG) AG) (AO (AU (Cq (ID (AC 3)) (Aa (JI a) hr (AA (AC 0) (AA (AC 1) (AA (AR AS (AC 2) AG) AE)))) (Aa (HS a) hr (AA (AC 0) (AA (AC 1) AE)))))) Ad) (AH (AW 4 nd (Ah IK (AR AS (AC 2) AG) AG)) (AO (AU (Cq (ID (AC 3)) (Aa (JZ a) hr (AA (AC 0) (AA (AC 1) (AA (AC 4) AE)))) (Aa (LP a) hr (AA (AC 0) (AA (AC 1) (AA (AC 4) (AA (AR AS (AC 2) AG) AE))))))))))))
theorem EL:Mth P w K mg base "Plan" "claim_on" ["self", "claim", "word", "number", "worth"] 7 (Cj):=by
 obtain⟨C,f,fd,d⟩:=a.e32;obtain⟨cG,b9⟩:=a.e55;exact DY (k:=6) .all d sc_Plan_claim_on (d.F.binds λ_ _ _ _ _ _=>lq5 λ_ _ _ _ _=>rfl) (λ_ _ _ _ _ _ hr=>by have nd:=sc_Plan_claim_on.nd;unfold EE;wtm_at "c";exact(AH (AW 5 nd (AM (AA (AC 1) (AA (AC 2) (AA (AC 3) (AA (AC 4) AE)))))) (AH (Ar (AY (MC hr) (AC 5) (BB b9.ca (b9.na "claims" (by decide +kernel)) (AC 0))) (AO (Ox hr (BB b9.ca (b9.na "claims" (by decide +kernel)) (AC 0)) (AC 5) (Aa (JJ a) hr (AA (BB b9.ca (b9.na "making" (by decide +kernel)) (AC 0)) (AA (AC 1) (AA (AM (AA (AC 2) (AA (AC 3) (AA (AC 4) AE)))) AE)))))) Ad) (AO (AU (O2 hr (BB b9.ca (b9.na "claims" (by decide +kernel)) (AC 0)) (AC 5)))))))
theorem Ci:Mth P w K mg base "Plan" "named_numbers" ["self", "number", "worth", "numbers"] 1 (Bp):=by
 obtain⟨C,f,fd,d⟩:=a.e33;obtain⟨cG,b9⟩:=a.e55;exact DY (k:=0) .all d sc_Plan_named_numbers (d.F.binds λ_ _ _ _ _ _=>lq4 λ_ _ _ _=>rfl) (λ_ _ _ _ _ _ hr=>by have nd:=sc_Plan_named_numbers.nd;unfold Cc;wtm_at "c";exact(AH (AW 4 nd (VL a.y1 a.y13 (AA (AR AS (BB b9.ca (b9.na "variables" (by decide +kernel)) (AC 0)) (AC 1)) (AA (AC 3) AE)))) (AH (Ar (AY (Az hr) (AC 1) AG) (AO (Ko hr (AC 4) AK (AC 2))) Ad) (AO (AU (AC 4))))))
theorem Ch:Fn P w K mg base "one_where" ["holds"] 1 (f_one_where):=by
 obtain⟨f,fd,d⟩:=a.e34;exact Af (k:=0) .all d.F sc_one_where (PySem.W.mg_of a.X a.G d.a) (d.F.binds λ_ _ _ _ _ _=>lq1 λ_=>rfl) (λ_ _ _ _ _ _ hr=>by have nd:=sc_one_where.nd;unfold m_one_where;wtm_at "c";exact(AO (AU (Cq (ID (AC 0)) AG AG))))
theorem G7:Fn P w K mg base "number_of_pair" ["word", "first", "second"] 2 (f_number_of_pair):=by
 obtain⟨f,fd,d⟩:=a.e35;exact Af (k:=1) .all d.F sc_number_of_pair (PySem.W.mg_of a.X a.G d.a) (d.F.binds λ_ _ _ _ _ _=>lq3 λ_ _ _=>rfl) (λ_ _ _ _ _ _ hr=>by have nd:=sc_number_of_pair.nd;unfold m_number_of_pair;wtm_at "c";exact(AH (Ar (AY (Az hr) (AC 0) AK) (AO (AU (BE (aV rfl) a.y8 Mi.US (AA (Ah A6 (AC 1) (AC 2)) (AA (Bo a.g0) AE))))) Ad) (AH (Ar (AY (Az hr) (AC 0) AK) (AO (AU (BE (UO rfl) a.y7 Mi.JA (AA (Ah IK (AC 1) (AC 2)) (AA AG AE))))) Ad) (AH (Ar (AY (Az hr) (AC 0) AK) (AO (AU (Aa (Ch a) hr (AA (EZ (Az hr) (AC 1) (AC 2)) AE)))) Ad) (AH (Ar (AY (Az hr) (AC 0) AK) (AO (AU (Aa (Ch a) hr (AA (EZ Vs (AC 1) (AC 2)) AE)))) Ad) (AH (Ar (AY (Az hr) (AC 0) AK) (AO (AU (Aa (Ch a) hr (AA (Kt (EZ (DH hr) (AC 1) AG) (Kq (EZ (DH hr) (AC 2) AG))) AE)))) Ad) (AO (AU (Aa (Ch a) hr (AA (Zh (EZ (DH hr) (AC 1) AG) (Kq (EZ (DH hr) (AC 2) AG))) AE))))))))))
theorem DK(n:Nat):Fn P w K mg base "number_of" ["expression", "numbers"] (n+3) (f_number_of n):=by
 obtain⟨f,fd,d⟩:=a.e36
 induction n with
 |zero=>exact Md d.F (PySem.W.mg_of a.X a.G d.a) (d.F.binds λ_ _ _ _ _ _=>lq2 λ_ _=>rfl)
 |succ n ih=>exact(Af (k:=n+3) .all d.F sc_number_of (PySem.W.mg_of a.X a.G d.a) (d.F.binds λ_ _ _ _ _ _=>lq2 λ_ _=>rfl) (λ_ _ _ _ _ _ hr=>by have nd:=sc_number_of.nd;unfold m_number_of;wtm_at "c";exact(AH (AW 2 nd (AR AS (AC 0) AG)) (AH (Ar (AY (Az hr) (AC 2) AK) (AO (AU (AR AS (AC 0) AG))) Ad) (AH (Ar (AY (Az hr) (AC 2) AK) (AO (AU (Kr hr (AC 1) (AR AS (AC 0) AG)))) Ad) (AH (AW 3 nd (Aa (hkj:=AAF _) ih hr (AA (AR AS (AC 0) AG) (AA (AC 1) AE)))) (AH (Ar (AY (Az hr) (AC 2) AK) (AO (AU (Aa (hkj:=by omega) (Ch a) hr (AA (EZ (Az hr) (AC 3) AG) AE)))) Ad) (AO (AU (Aa (hkj:=by omega) (G7 a) hr (AA (AC 2) (AA (AC 3) (AA (Aa (hkj:=AAF _) ih hr (AA (AR AS (AC 0) AG) (AA (AC 1) AE))) AE))))))))))))).mono (by omega)
theorem LO:Fn P w K mg base "row_behind" ["row", "at", "named"] 10 (f_row_behind):=by
 obtain⟨f,fd,d⟩:=a.e37;exact Af (k:=9) .all d.F sc_row_behind (PySem.W.mg_of a.X a.G d.a) (d.F.binds λ_ _ _ _ _ _=>lq3 λ_ _ _=>rfl) (λ_ _ _ _ _ _ hr=>by have nd:=sc_row_behind.nd;unfold m_row_behind;wtm_at "c";exact(AH (Ar (AY (Az hr) (AR AS (AC 0) AG) AK) (AO (AU (AR AS (AC 0) AG))) Ad) (AH (Ar (RW.rt (Fc (AY (Az hr) (AR AS (AC 0) AG) AK) (Do (AY (Az hr) (Aa (DK a 6) hr (AA (AR AS (AC 0) AG) (AA (AC 2) AE))) AG)))) (AO (AU (AR AS (AC 0) AG))) Ad) (AH (Ar (AY (Az hr) (AR AS (AC 0) AG) AK) (AO (Ko hr (AC 2) (AR AS (AC 0) AG) (Aa (DK a 6) hr (AA (AR AS (AC 0) AG) (AA (AC 2) AE))))) Ad) (AO (AU (Ah A6 (AC 1) AG)))))))
theorem OQ:Fn P w K mg base "followed" ["rows", "at", "named"] 11 (f_followed):=by
 obtain⟨f,fd,d⟩:=a.e38;exact Fn.less (φ:=Ce) (Af (k:=10) .drop d.F sc_followed (PySem.W.mg_of a.X a.G d.a) (d.F.binds λ_ _ _ _ _ _=>lq3 λ_ _ _=>rfl) (λ_ _ _ _ _ _ hr=>by have nd:=sc_followed.nd;unfold m_followed;wtm_at "c";exact(AH (AW 3 nd An) (AH (AW 4 nd An) (AH (AW 5 nd AG) (AH (AW 6 nd AG) (AH (Ly BO PassesOwn.never (RW.rt (Fc (AY Vs (AC 1) (BE FY a.y5 Mi.B2 (AA (AC 0) AE))) (Do (AY Z5 (AR AS (AR AS (AC 0) (AC 1)) AG) (Bo a.g4))))) (AH (Ar (RW.rt (Fc (AY (Az hr) (AC 1) (AC 3)) (Do (AY (Z6 hr) (AC 2) (AC 4))))) (AO (AU An)) Ad) (AH (U9 6 nd AG) (AH (Ar (AY (Az hr) (AC 6) AG) (AH (AW 3 nd (AC 1)) (AH (AW 4 nd (Bc WO a.y1 Mi.KO (AA (AC 2) AE))) (AH (AW 5 nd (Ah F3 AG (AC 5))) (AO (AW 6 nd (AC 5)))))) Ad) (AO (AW 1 nd (Aa (LO a) hr (AA (AR AS (AC 0) (AC 1)) (AA (AC 1) (AA (AC 2) AE)))))))))) (AO (AU (AC 1)))))))))) Tw
theorem ND:Fn P w K mg base "way_found" ["plan", "number", "at", "worth", "numbers"] 12 (HN):=by
 obtain⟨f,fd,d⟩:=a.e39;obtain⟨cG,b9⟩:=a.e55;exact Af (k:=11) .drop d.F sc_way_found (PySem.W.mg_of a.X a.G d.a) (d.F.binds λ_ _ _ _ _ _=>lq5 λ_ _ _ _ _=>rfl) (λ_ _ _ _ _ _ hr=>by have nd:=sc_way_found.nd;unfold HG;wtm_at "c";exact(AH (AW 5 nd (AR AS (AR AS (AR AS (BB b9.ca (b9.na "making" (by decide +kernel)) (AC 0)) AG) (AC 1)) AG)) (AH (AW 6 nd (B3 (Ci a) hr (AC 0) (AA (AC 1) (AA (AC 3) (AA (AC 4) AE))))) (AH (AW 2 nd (Aa (OQ a) hr (AA (AC 5) (AA (AC 2) (AA (AC 6) AE))))) (AH (Ar (AY MD (AC 2) An) (AO (AU (AM (AA AK (AA An (AA An (AA An AE))))))) Ad) (AH (AW 7 nd (Bc C1 a.y12 Mi.BQ (AA (Dq (tgs:=["name"]) (ix:=[6]) (i:=0) (n:=1) ⟨rfl,by decide +kernel,by decide +kernel,⟨Or.inl rfl,trivial⟩,rfl,by decide +kernel⟩ rfl (Bz (AR AS (BB b9.ca (b9.na "variables" (by decide +kernel)) (AC 0)) (AC 1))) (λ_ _ _ _=>Aw (i:=0) (show List.Nodup (["name", "named"]:List Str) from by decide +kernel) rfl (Or.inl rfl)) (λ_ _ _ _=>CH) (λ_ _ _ _=>(Kr hr (AC 1) (AC 0)))) AE))) (AH (Ar (AY (Az hr) (AC 2) (BE FY a.y5 Mi.B2 (AA (AC 5) AE))) (AO (AU (AM (AA (Cq (AY (Az hr) (AC 1) AG) AK AK) (AA An (AA (AC 7) (AA An AE))))))) Ad) (AH (AW 8 nd (AR AS (AC 5) (AC 2))) (AH (Ar (AY Z5 (AR AS (AC 8) AG) (AM (AA AK (AA AK AE)))) (AO (AU (AM (AA AK (AA (AC 2) (AA (AC 7) (AA An AE))))))) Ad) (AH (Ar (AY (Az hr) (AR AS (AC 8) AG) AK) (AO (AU (AM (AA AK (AA An (AA (AC 7) (AA An AE))))))) Ad) (AH (AW 9 nd (Aa (DK a 6) hr (AA (AR AS (AC 8) AG) (AA (AC 6) AE)))) (AO (AU (AM (AA (Cq (AY Vs (AC 9) (AR AS (BB b9.ca (b9.na "making" (by decide +kernel)) (AC 0)) AG)) AK AK) (AA An (AA (AC 7) (AA (AC 9) AE))))))))))))))))))
theorem Jb:Mth P w K mg base "Plan" "way_on" ["self", "number", "at", "worth", "numbers"] 13 (FX):=by
 obtain⟨C,f,fd,d⟩:=a.e40;obtain⟨cG,b9⟩:=a.e55;exact DY (k:=12) .all d sc_Plan_way_on (d.F.binds λ_ _ _ _ _ _=>lq5 λ_ _ _ _ _=>rfl) (λ_ _ _ _ _ _ hr=>by have nd:=sc_Plan_way_on.nd;unfold FR;wtm_at "c";exact(AH (AW 5 nd (AM (AA (AC 1) (AA (AC 2) (AA (AC 3) (AA (AC 4) AE)))))) (AH (Ar (AY (MC hr) (AC 5) (BB b9.ca (b9.na "ways" (by decide +kernel)) (AC 0))) (AO (Ox hr (BB b9.ca (b9.na "ways" (by decide +kernel)) (AC 0)) (AC 5) (Aa (ND a) hr (AA (AC 0) (AA (AC 1) (AA (AC 2) (AA (AC 3) (AA (AC 4) AE)))))))) Ad) (AO (AU (O2 hr (BB b9.ca (b9.na "ways" (by decide +kernel)) (AC 0)) (AC 5)))))))
theorem DJ:Fn P w K mg base "with_hand" ["stand", "number", "hand"] 2 (DI):=by
 obtain⟨f,fd,d⟩:=a.e41;exact Af (k:=1) .all d.F sc_with_hand (PySem.W.mg_of a.X a.G d.a) (d.F.binds λ_ _ _ _ _ _=>lq3 λ_ _ _=>rfl) (λ_ _ _ _ _ _ hr=>by have nd:=sc_with_hand.nd;unfold HF;wtm_at "c";exact(AO (AU (AM (AA (Aa (BI a) hr (AA (AR AS (AC 0) AG) (AA (AC 1) (AA (AC 2) AE)))) (AA (AR AS (AC 0) AG) (AA (AR AS (AC 0) AG) AE)))))))
theorem GV:Fn P w K mg base "broken" ["word", "plan", "number", "events"] 1 (GH):=by
 obtain⟨f,fd,d⟩:=a.e42;obtain⟨cG,b9⟩:=a.e55;exact Af (k:=0) .all d.F sc_broken (PySem.W.mg_of a.X a.G d.a) (d.F.binds λ_ _ _ _ _ _=>lq4 λ_ _ _ _=>rfl) (λ_ _ _ _ _ _ hr=>by have nd:=sc_broken.nd;unfold MM;wtm_at "c";exact(AO (AU (AM (AA An (AA (AM (AA (AC 0) (AA (AR AS (BB b9.ca (b9.na "names" (by decide +kernel)) (AC 1)) (AC 2)) AE))) (AA (AC 3) AE)))))))
theorem G8:Fn P w K mg base "gone_on" ["plan", "stand", "number", "deed", "events"] 14 (E8):=by
 obtain⟨f,fd,d⟩:=a.e43;obtain⟨cG,b9⟩:=a.e55;exact Af (k:=13) .all d.F sc_gone_on (PySem.W.mg_of a.X a.G d.a) (d.F.binds λ_ _ _ _ _ _=>lq5 λ_ _ _ _ _=>rfl) (λ_ _ _ _ _ _ hr=>by have nd:=sc_gone_on.nd;unfold Jz;wtm_at "c";exact(AH (AW 5 nd (B3 (Jb a) hr (AC 0) (AA (AC 2) (AA (AR AS (AC 3) AG) (AA (AR AS (AC 3) AG) (AA (AR AS (AC 3) AG) AE)))))) (AH (Ar (AY (Az hr) (AR AS (AC 5) AG) AK) (AO (AU (AM (AA (Aa (DJ a) hr (AA (AC 1) (AA (AC 2) (AA (AM (AA (AR AS (AC 5) AG) (AA An (AA (AR AS (AC 3) AG) (AA (AR AS (AC 3) AG) (AA (AR AS (AC 5) AG) AE)))))) AE)))) (AA An (AA (AC 4) AE)))))) Ad) (AH (Ar (AY (DH hr) (AR AS (AC 5) AG) AK) (AO (AU (Aa (GV a) hr (AA (AR AS (AC 5) AG) (AA (AC 0) (AA (AC 2) (AA (AC 4) AE))))))) Ad) (AH (AW 6 nd (AR AS (BB b9.ca (b9.na "names" (by decide +kernel)) (AC 0)) (AC 2))) (AH (AW 7 nd (Ah A6 (AC 4) (Ac (AA (Cq (AY (Az hr) (AC 2) AG) (AM (AA AK (AA (AC 6) AE))) (AM (AA AK (AA (AC 6) (AA (AR AS (AC 5) AG) AE))))) AE)))) (AH (AW 8 nd (B3 (EL a) hr (AC 0) (AA (AR AS (AC 1) AG) (AA AK (AA (AC 2) (AA (AR AS (AC 5) AG) AE)))))) (AH (Ar (AY MD (AC 8) An) (AO (AU (Aa (GV a) hr (AA AK (AA (AC 0) (AA (AC 2) (AA (AC 7) AE))))))) Ad) (AH (AW 9 nd (AM (AA (Bo a.g2) (AA An (AA AG (AA AG (AA (AR AS (AC 5) AG) AE))))))) (AO (AU (AM (AA (Aa (DJ a) hr (AA (AM (AA (AR AS (AC 1) AG) (AA (AR AS (AC 1) AG) (AA (AC 8) AE)))) (AA (AC 2) (AA (AC 9) AE)))) (AA An (AA (AC 7) AE)))))))))))))))
theorem WX:Fn P w K mg base "begun" ["plan", "stand", "move"] 15 (Pe):=by
 obtain⟨f,fd,d⟩:=a.e44;obtain⟨cG,b9⟩:=a.e55;exact Af (k:=14) .all d.F sc_begun (PySem.W.mg_of a.X a.G d.a) (d.F.binds λ_ _ _ _ _ _=>lq3 λ_ _ _=>rfl) (λ_ _ _ _ _ _ hr=>by have nd:=sc_begun.nd;unfold PN;wtm_at "c";exact(AH (AW 3 nd (AR AS (AC 2) AG)) (AH (AW 4 nd (AR AS (AC 2) AG)) (AH (AW 5 nd (Cq (AY (Az hr) (AC 3) AG) (AM (AA AK (AA (AR AS (BB b9.ca (b9.na "names" (by decide +kernel)) (AC 0)) (AC 3)) (AA (AC 4) AE)))) (AM (AA AK (AA (AR AS (BB b9.ca (b9.na "names" (by decide +kernel)) (AC 0)) (AC 3)) AE))))) (AH (AW 6 nd (B3 (EL a) hr (AC 0) (AA (AR AS (AC 1) AG) (AA AK (AA (AC 3) (AA (AC 4) AE)))))) (AO (AU (Aa (G8 a) hr (AA (AC 0) (AA (AM (AA (AR AS (AC 1) AG) (AA (AR AS (AC 1) AG) (AA (AC 6) AE)))) (AA (AC 3) (AA (AM (AA AG (AA (AC 4) (AA AG (AA (AR AS (AR AS (AR AS (AC 1) AG) (AC 3)) AG) AE))))) (AA (Ac (AA (AC 5) AE)) AE)))))))))))))
theorem B5:Mth P w K mg base "Plan" "place_of" ["self", "row"] 1 (Bm):=by
 obtain⟨C,f,fd,d⟩:=a.e45;obtain⟨cG,b9⟩:=a.e55;exact DY (k:=0) .all d sc_Plan_place_of (d.F.binds λ_ _ _ _ _ _=>lq2 λ_ _=>rfl) (λ_ _ _ _ _ _ hr=>by have nd:=sc_Plan_place_of.nd;unfold ED;wtm_at "c";exact(AO (AU (Kr hr (BB b9.ca (b9.na "places" (by decide +kernel)) (AC 0)) (Cq (AY (Az hr) (AR AS (AC 1) AG) AK) (AR AS (AC 1) AG) (AR AS (AC 1) AG))))))
theorem Ka:Fn P w K mg base "between" ["hand", "half"] 1 (Gz):=by
 obtain⟨f,fd,d⟩:=a.e46;exact Af (k:=0) .all d.F sc_between (PySem.W.mg_of a.X a.G d.a) (d.F.binds λ_ _ _ _ _ _=>lq2 λ_ _=>rfl) (λ_ _ _ _ _ _ hr=>by have nd:=sc_between.nd;unfold J2;wtm_at "c";exact(AO (AU (AM (AA (AR AS (AC 0) AG) (AA (AC 1) (AA (AR AS (AC 0) AG) (AA (Ah A6 (AR AS (AC 0) AG) AG) (AA (AR AS (AC 0) AG) AE)))))))))
theorem aZ:Fn P w K mg base "got" ["plan", "stand", "move", "row"] 15 (W9):=by
 obtain⟨f,fd,d⟩:=a.e47;obtain⟨cG,b9⟩:=a.e55;exact Af (k:=14) .all d.F sc_got (PySem.W.mg_of a.X a.G d.a) (d.F.binds λ_ _ _ _ _ _=>lq4 λ_ _ _ _=>rfl) (λ_ _ _ _ _ _ hr=>by have nd:=sc_got.nd;unfold Wq;wtm_at "c";exact(AH (AW 4 nd (AR AS (AC 2) AG)) (AH (AW 5 nd (AR AS (AR AS (AC 1) AG) (AC 4))) (AH (AW 6 nd (B3 (B5 a) hr (AC 0) (AA (AC 3) AE))) (AH (AW 7 nd (AR AS (AR AS (BB b9.ca (b9.na "making" (by decide +kernel)) (AC 0)) AG) (AC 6))) (AH (AW 8 nd (AR AS (AR AS (AC 1) AG) (AC 6))) (AH (Ar (RW.rt (Fc (AY (DH hr) (AR AS (AC 7) AG) AK) (Do (AY MD (AR AS (AC 5) AG) An)))) (AH (AW 9 nd (Cq (AY (Az hr) (AR AS (AC 8) AG) (Bo a.g3)) (AM (AA (AR AS (AC 8) AG) AE)) (Aa (GW a) hr (AA (AR AS (AC 7) AG) (AA (AR AS (AC 7) AG) (AA (BH (AC 8) A4 (A3 AG)) (AA (AR AS (AC 8) AG) AE))))))) (AO (AU (AM (AA (Aa (DJ a) hr (AA (AC 1) (AA (AC 4) (AA (Aa (Ka a) hr (AA (AC 5) (AA (AC 9) AE))) AE)))) (AA An (AA (Ac AE) AE))))))) Ad) (AH (AW 10 nd (Cq (AY (Az hr) (AR AS (AC 7) AG) AK) (AR AS (AC 8) AG) (AR AS (AC 2) AG))) (AH (AW 11 nd (Aa (BI a) hr (AA (AR AS (AC 5) AG) (AA (Ai PySem.F.slot_list_index PySem.F.type_list_index MK (AR AS (BB b9.ca (b9.na "variables" (by decide +kernel)) (AC 0)) (AC 4)) (AA (AR AS (AC 3) AG) AE)) (AA (AC 10) AE))))) (AO (AU (Aa (G8 a) hr (AA (AC 0) (AA (AC 1) (AA (AC 4) (AA (AM (AA (Ah A6 (AR AS (AC 5) AG) AG) (AA (AR AS (AC 5) AG) (AA (Ah A6 (AR AS (AC 5) AG) AG) (AA (AC 11) AE))))) (AA (Ac AE) AE)))))))))))))))))
theorem HQ:Fn P w K mg base "put_ended" ["plan", "stand", "number", "place", "worth"] 15 (Er):=by
 obtain⟨f,fd,d⟩:=a.e48;exact Af (k:=14) .all d.F sc_put_ended (PySem.W.mg_of a.X a.G d.a) (d.F.binds λ_ _ _ _ _ _=>lq5 λ_ _ _ _ _=>rfl) (λ_ _ _ _ _ _ hr=>by have nd:=sc_put_ended.nd;unfold HH;wtm_at "c";exact(AH (AW 5 nd (AR AS (AR AS (AC 1) AG) (AC 2))) (AH (AW 6 nd (AM (AA (AR AS (AC 1) AG) (AA (Aa (BI a) hr (AA (AR AS (AC 1) AG) (AA (AC 3) (AA (AM (AA (AC 4) (AA (Bo a.g3) AE))) AE)))) (AA (AR AS (AC 1) AG) AE))))) (AO (AU (Aa (G8 a) hr (AA (AC 0) (AA (AC 6) (AA (AC 2) (AA (AM (AA (Ah A6 (AR AS (AC 5) AG) AG) (AA (AR AS (AC 5) AG) (AA (Ah A6 (AR AS (AC 5) AG) AG) (AA (AR AS (AC 5) AG) AE))))) (AA (Ac AE) AE)))))))))))
theorem LR:Fn P w K mg base "beside_put" ["plan", "number", "hand", "place", "worth"] 2 (GI):=by
 obtain⟨f,fd,d⟩:=a.e49;obtain⟨cG,b9⟩:=a.e55;exact Af (k:=1) .all d.F sc_beside_put (PySem.W.mg_of a.X a.G d.a) (d.F.binds λ_ _ _ _ _ _=>lq5 λ_ _ _ _ _=>rfl) (λ_ _ _ _ _ _ hr=>by have nd:=sc_beside_put.nd;unfold F9;wtm_at "c";exact(AH (Ar (AY MD (AR AS (AC 2) AG) An) (AO (AU (AC 2))) Ad) (AH (AW 5 nd (B3 (DT a) hr (AC 0) (AA (AC 1) (AA (AR AS (AC 2) AG) AE)))) (AH (Ar (RW.rt (Lw (AY (DH hr) (AR AS (AC 5) AG) AK) (Kn (AY (DH hr) (B3 (B5 a) hr (AC 0) (AA (AC 5) AE)) (AC 3))))) (AO (AU (AC 2))) Ad) (AH (AW 6 nd (AR AS (AR AS (BB b9.ca (b9.na "making" (by decide +kernel)) (AC 0)) AG) (AC 3))) (AO (AU (Aa (BI a) hr (AA (AC 2) (AA AG (AA (Aa (GW a) hr (AA (AR AS (AC 6) AG) (AA (AR AS (AC 6) AG) (AA (AR AS (AC 2) AG) (AA (AC 4) AE))))) AE)))))))))))
theorem aY:Fn P w K mg base "put" ["plan", "stand", "number", "row"] 16 (W8):=by
 obtain⟨f,fd,d⟩:=a.e50;obtain⟨cG,b9⟩:=a.e55;exact Af (k:=15) .all d.F sc_put (PySem.W.mg_of a.X a.G d.a) (d.F.binds λ_ _ _ _ _ _=>lq4 λ_ _ _ _=>rfl) (λ_ _ _ _ _ _ hr=>by have nd:=sc_put.nd;unfold Wo;wtm_at "c";exact(AH (AW 4 nd (AR AS (AR AS (AC 1) AG) (AC 2))) (AH (AW 5 nd (B3 (B5 a) hr (AC 0) (AA (AC 3) AE))) (AH (AW 6 nd (AR AS (AR AS (BB b9.ca (b9.na "making" (by decide +kernel)) (AC 0)) AG) (AC 5))) (AH (AW 7 nd (Aa (DK a 6) hr (AA (AR AS (AC 3) AG) (AA (B3 (Ci a) hr (AC 0) (AA (AC 2) (AA (AR AS (AC 4) AG) (AA (AR AS (AC 4) AG) AE)))) AE)))) (AH (Ar (AY Vu (AC 7) (AR AS (AC 6) AG)) (AO (AU (Aa (GV a) hr (AA AK (AA (AC 0) (AA (AC 2) (AA (Ac AE) AE))))))) Ad) (AH (Ar (AY (Az hr) (AR AS (AC 6) AG) AK) (AO (AU (Aa (HQ a) hr (AA (AC 0) (AA (AC 1) (AA (AC 2) (AA (AC 5) (AA (AC 7) AE)))))))) Ad) (AH (Lz none 8 (tgs:=["getter", "other"]) (ix:=[5,0,7]) (is:=[0,1]) (n:=2) nd ⟨rfl,by decide +kernel,by decide +kernel,⟨Or.inl rfl,Or.inl rfl,Or.inl rfl,trivial⟩,rfl,by decide +kernel⟩ rfl (F2 a.y2 (AA (AR AS (AC 1) AG) AE)) (λ_ _ _ _=>(A1 (Aw (i:=0) (show List.Nodup (["getter", "other", "place", "plan", "worth"]:List Str) from by decide +kernel) rfl (Or.inl rfl)) (A1 (Aw (i:=1) (show List.Nodup (["getter", "other", "place", "plan", "worth"]:List Str) from by decide +kernel) rfl (Or.inl rfl)) Cw))) (λ_ _ _ _=>QR) (λ_ _ _ _=>(Aa (LR a) hr (AA (AC 3) (AA (AC 0) (AA (AC 1) (AA (AC 2) (AA (AC 4) AE))))))) (λ_ _ _ _ _ _ _ _ R i e q=>CY R i e q)) (AH (AW 9 nd (Aa (BI a) hr (AA (AR AS (AC 1) AG) (AA (AC 5) (AA (AM (AA (AR AS (AR AS (AR AS (AC 1) AG) (AC 5)) AG) (AA (AC 7) AE))) AE))))) (AO (AU (AM (AA (Aa (DJ a) hr (AA (AM (AA (Bc C1 a.y12 Mi.BQ (AA (AC 8) AE)) (AA (AC 9) (AA (AR AS (AC 1) AG) AE)))) (AA (AC 2) (AA (Aa (Ka a) hr (AA (AC 4) (AA (AM AE) AE))) AE)))) (AA An (AA (Ac AE) AE)))))))))))))))
theorem WW:Fn P w K mg base "moved" ["plan", "stand", "move"] 17 (Pd):=by
 obtain⟨f,fd,d⟩:=a.e51;obtain⟨cG,b9⟩:=a.e55;exact Af (k:=16) .all d.F sc_moved (PySem.W.mg_of a.X a.G d.a) (d.F.binds λ_ _ _ _ _ _=>lq3 λ_ _ _=>rfl) (λ_ _ _ _ _ _ hr=>by have nd:=sc_moved.nd;unfold PM;wtm_at "c";exact(AH (AW 3 nd (AR AS (AC 2) AG)) (AH (AW 4 nd (AR AS (AR AS (AC 1) AG) (AC 3))) (AH (Ar (AY (Az hr) (AR AS (AC 4) AG) (Bo a.g2)) (AO (AU (Aa (WX a) hr (AA (AC 0) (AA (AC 1) (AA (AC 2) AE)))))) Ad) (AH (Ar (AY Vu (AR AS (AC 4) AG) (AR AS (AR AS (AR AS (BB b9.ca (b9.na "making" (by decide +kernel)) (AC 0)) AG) (AC 3)) AG)) (AO (AU (Aa (GV a) hr (AA AK (AA (AC 0) (AA (AC 3) (AA (Ac AE) AE))))))) Ad) (AH (AW 5 nd (B3 (DT a) hr (AC 0) (AA (AC 3) (AA (AR AS (AC 4) AG) AE)))) (AH (Ar (AY (Az hr) (AR AS (AC 5) AG) AK) (AO (AU (Aa (aZ a) hr (AA (AC 0) (AA (AC 1) (AA (AC 2) (AA (AC 5) AE))))))) Ad) (AH (Ar (AY MD (AR AS (AC 4) AG) An) (AO (AU (Aa (aY a) hr (AA (AC 0) (AA (AC 1) (AA (AC 3) (AA (AC 5) AE))))))) Ad) (AH (AW 6 nd (B3 (B5 a) hr (AC 0) (AA (AC 5) AE))) (AO (AU (Aa (HQ a) hr (AA (AC 0) (AA (AC 1) (AA (AC 3) (AA (AC 6) (AA (AR AS (AR AS (AR AS (AC 1) AG) (AC 6)) AG) AE)))))))))))))))))
theorem RH:Fn P w K mg base "stepped" ["making", "stand", "step"] 18 (Db):=by
 obtain⟨f,fd,d⟩:=a.e52;exact Af (k:=17) .drop d.F sc_stepped (PySem.W.mg_of a.X a.G d.a) (d.F.binds λ_ _ _ _ _ _=>lq3 λ_ _ _=>rfl) (λ_ _ _ _ _ _ hr=>by have nd:=sc_stepped.nd;unfold Jw;wtm_at "c";exact(AH (AW 3 nd (O3 (EM a) hr (AA (AC 0) AE))) (AH (AW 4 nd (Aa (RK a) hr (AA (AC 3) (AA (AC 1) (AA (AC 2) AE))))) (AH (Ar (AY MD (AC 4) An) (AO SU) Ad) (AO (AU (Aa (WW a) hr (AA (AC 3) (AA (AC 1) (AA (AC 4) AE))))))))))
theorem WY:Fn P w K mg base "_law_walk" ["_law_making", "_law_weaving"] 19 (C0):=by
 obtain⟨f,fd,d⟩:=a.e53;exact Af (k:=18) .drop d.F sc_Lwalk (PySem.W.mg_of a.X a.G d.a) (d.F.binds λ_ _ _ _ _ _=>lq2 λ_ _=>rfl) (λ_ _ _ _ _ _ hr=>by have nd:=sc_Lwalk.nd;unfold HW;wtm_at "c";exact(AH (AW 2 nd (Aa (JY a) hr (AA (AC 0) AE))) (AH (CQ PassesOwn.never rfl (E6 a.y9 (AA (BE FY a.y5 Mi.B2 (AA (AC 1) AE)) AE)) (DG 3 nd) (AH (SV (Aa (RH a) hr (AA (AC 0) (AA (AC 2) (AA (AR AS (AC 1) (AC 3)) AE)))) (EY (is:=[4,5,6]) rfl (A1 (Aw (i:=4) nd rfl (by first|exact Or.inl rfl|exact Or.inr rfl)) (A1 (Aw (i:=5) nd rfl (by first|exact Or.inl rfl|exact Or.inr rfl)) (A1 (Aw (i:=6) nd rfl (by first|exact Or.inl rfl|exact Or.inr rfl)) Cw))))) (AH (Ar (AY F4 (AC 5) An) (AO (AU (AM (AA (AC 3) (AA (AC 5) (AA (AC 6) (AA (AC 4) AE))))))) Ad) (AO (AW 2 nd (AC 4)))))) (AO (AU (AM (AA (BE FY a.y5 Mi.B2 (AA (AC 1) AE)) (AA An (AA (Ac AE) (AA An AE))))))))))
end
theorem all_mk{l:PySem.W.OpenLaw}{w:World}{K:PySem.W.Frag}{h:Heap}{mg:Str->Option Value}{fa:Addr}(hφ:∀ns:List Int,ns.length<=63->∃μ',Mj [.scr ns] []=some (.bl true,μ'))(a:Al w K mg h)(hfa:mg "law" = some (.ref fa)):
  ∃fd:FuncData,(∀(s:Shared) (v:Value),BindsTo s fd ⟨[v],[]⟩ [("_law_script",v)])/\∀base:Heap,K.In base->base.Ns mainGlobals mg->FnOk l.prog w K mg base CX0 20 fa fd ["_law_script"] (On K):=by
 obtain⟨fa_law,fd_law,d⟩:=a.e54;have e:=hfa.symm.trans (PySem.W.mg_of a.X a.G d.a);cases e;refine⟨fd_law,λs v=>?_,λbase _ _=>?_⟩
 ·obtain⟨oc,od,kV,doc,pm,an,cdv,ct,osl,rfl,lk,hcd⟩:=d.F.ex;exact .of_eq rfl
 exact Xc (φ:=Mj) (E7 (k:=19) .drop d.F sc_law (λ_ _ _ _ _ _ hr=>by have nd:=sc_law.nd;unfold Wp;wtm_at "c";exact(AH (AW 1 nd (Aa (RL a) hr (AA (Aa (OR a) hr (AA (AC 0) (AA AG AE))) (AA AG AE)))) (AH (AW 2 nd (Ah Bg (Ah IL (Gf PySem.F.slot_list_pop PySem.F.type_list_pop Ta (AC 1)) AG) AG)) (AH (AW 3 nd (Ah Bg (Ah IL (Gf PySem.F.slot_list_pop PySem.F.type_list_pop Ta (AC 1)) AG) AG)) (AH (CQ PassesOwn.never rfl (Bz (Ah A6 (Aa (LS a) hr (AA (AC 2) (AA (AC 3) AE))) (Aa (LT a) hr (AA (AC 2) (AA (AC 3) AE))))) (EY (is:=[4,5,6,7]) rfl (A1 (Aw (i:=4) nd rfl (by first|exact Or.inl rfl|exact Or.inr rfl)) (A1 (Aw (i:=5) nd rfl (by first|exact Or.inl rfl|exact Or.inr rfl)) (A1 (Aw (i:=6) nd rfl (by first|exact Or.inl rfl|exact Or.inr rfl)) (A1 (Aw (i:=7) nd rfl (by first|exact Or.inl rfl|exact Or.inr rfl)) Cw))))) (AH (SV (Aa (WY a) hr (AA (AC 4) (AA (AC 5) AE))) (EY (is:=[8,9,10,11]) rfl (A1 (Aw (i:=8) nd rfl (by first|exact Or.inl rfl|exact Or.inr rfl)) (A1 (Aw (i:=9) nd rfl (by first|exact Or.inl rfl|exact Or.inr rfl)) (A1 (Aw (i:=10) nd rfl (by first|exact Or.inl rfl|exact Or.inr rfl)) (A1 (Aw (i:=11) nd rfl (by first|exact Or.inl rfl|exact Or.inr rfl)) Cw)))))) (AH (Ar (RW.rt (Lw (AY (DH hr) (AC 9) (AC 6)) (Kn (AY F4 (AC 11) An)))) (AO (AU O4)) Ad) (AH (Ar (RW.rt (Fc (AY MD (AC 6) An) (Do (AY (DH hr) (AC 8) (BE FY a.y5 Mi.B2 (AA (AC 5) AE)))))) (AO (AU O4)) Ad) (AO (Ar (RW.rt (Fc (AY F4 (AC 6) An) (Do (RW.rt (Lw (AY (DH hr) (AC 8) (Ah IK (BE FY a.y5 Mi.B2 (AA (AC 5) AE)) AG)) (Kn (AY (DH hr) (AC 10) (AC 7)))))))) (AO (AU O4)) Ad)))))) (AO (AU O4)))))))) hφ
section
variable{μ:Mh}{QD:D->Mh->Prop}
theorem P3(q:∀l:List Int,l.length=4->QD (.ref 0) [.lst (l.map D.int)]):WP (Dd [.int c,.int 4]) [] QD:=by
 unfold Dd;refine Rp rfl ?_;unfold Gj;simp only[Bt,Cz,Bu,By,Bb,CF,Cu,CK,Cy,Bs,CG,B1,CI];wtm_at "e";refine XM (by decide) ?_;wtm_at "e";cases e0:decide (((10:Int) ^ (40:Int).toNat)<=c) with
 |true=>
  wtm_at "e";refine OW (n:=4) rfl (by omega) ?_;refine Ro (I:=λj τ μ'=>∃(l:List Int) (r:Int) (o4:Option D),l.length=j/\μ'=[.lst (l.map D.int)]/\τ=[some (.int c),some (.int 4),some (.ref 0),some (.int r),o4,none,none]) ?_ ?_ ⟨[],c / 7,none,rfl,rfl,rfl⟩
  ·rintro j τ μ' hj ⟨l,r,o4,hl,rfl,rfl⟩;wtm_at "e";refine OV (gs:=[]) rfl (by rw[AAG,sizeLine_eq];omega) ?_;wtm_at "e";refine⟨[],_,rfl,rfl,rfl,?_⟩;wtm_at "e";refine LY ⟨l++[r % 10000019],r / 10000019,_,by simp[hl],by rw[AAY];rfl,rfl⟩
  ·rintro τ μ' ⟨l,r,o4,hl,rfl,rfl⟩;wtm_at "e";refine wp_of (a:=.int (-1)) (μ':=[.lst (l.map D.int)]) rfl ?_;refine wp_of (a:=.ref 1) (μ':=[.lst (l.map D.int),.lst (l.reverse.map D.int)]) ?_ ?_
   ·show bnd (DC (.ref 0)) (λds=>FC ds.reverse) [.lst (l.map D.int)]=_;rw[BN (show DC (.ref 0) [.lst (l.map D.int)]=some (l.map D.int,[.lst (l.map D.int)]) from rfl)];unfold FC;rw[BN (Tf (by rw[List.length_reverse,AAG,sizeLine_eq];omega) _),List.map_reverse];rfl
   ·wtm_at "e";exact⟨1,_,_,rfl,rfl,G1 _,q _ (by rw[List.length_reverse];exact hl)⟩
 |false=>
  wtm_at "e";refine Hh (.inr (by decide)) ?_;wtm_at "e";refine Hh (.inr (by decide)) ?_;wtm_at "e";refine OW (n:=4) rfl (by omega) ?_;refine Ro (I:=λj τ μ'=>∃(l:List Int) (a b:Int) (o4:Option D),l.length=j/\μ'=[.lst (l.map D.int)]/\0<=a/\a<4000000000/\0<=b/\b<4000000000/\τ=[some (.int c),some (.int 4),some (.ref 0),none,o4,some (.int a),some (.int b)]) ?_ ?_ ⟨[],_,_,none,rfl,rfl,Int.emod_nonneg _ (by decide),by have:=AAZ ((c % 2147483647+1) * 48271) (show (0:Int)<2147483647 by decide);omega,Int.emod_nonneg _ (by decide),by have:=AAZ ((c % 1000003+1) * 69621) (show (0:Int)<2147483629 by decide);omega,rfl⟩
  ·rintro j τ μ' hj ⟨l,a,b,o4,hl,rfl,ha,ha2,hb,hb2,rfl⟩;wtm_at "e";refine Hh (.inl (by omega)) ?_;wtm_at "e";refine Hh (.inr (by decide)) ?_;wtm_at "e";refine OV (gs:=[]) rfl (by rw[AAG,sizeLine_eq];omega) ?_;wtm_at "e";refine⟨[],_,rfl,rfl,rfl,?_⟩;have m1:=Int.emod_nonneg (a * (a / 1009+69621)) (show (2147483647:Int)≠0 by decide);have m2:=AAZ (a * (a / 1009+69621)) (show (0:Int)<2147483647 by decide);have m3:=Int.emod_nonneg (b * 48271) (show (2147483629:Int)≠0 by decide);have m4:=AAZ (b * 48271) (show (0:Int)<2147483629 by decide);refine LY ⟨l++[_],_,_,_,by simp[hl],by rw[AAY];rfl,?_,?_,m3,by omega,rfl⟩
   ·omega
   ·omega
  ·rintro τ μ' ⟨l,a,b,o4,hl,rfl,ha,ha2,hb,hb2,rfl⟩;wtm_at "e";exact⟨0,_,_,rfl,rfl,G1 _,q _ hl⟩
theorem Us(q:∀x:Int,QD (.int x) μ):WP (DA [.scr sc,.int 0]) μ QD:=by
 unfold DA;refine Br rfl ?_;unfold Fg;simp only[Bt,Cz,Bu,By,Bb,CF,Cu,CK,Cy,Bs,CG,B1,CI];wtm_at "e";refine wp_of (a:=.int (sc.length:Int)) (μ':=μ) ?_ ?_
 ·show some (D.int (((sc.map D.int).length:Nat):Int),μ)=_;rw[AAG]
 wtm_at "e";cases sc with
 |nil=>
  rw[show decide ((0:Int)<((([]:List Int).length:Nat):Int))=false from rfl];refine OY ?_;wtm_at "e";exact⟨_,_,rfl,q 0⟩
 |cons c sc=>
  rw[AAP (show (0:Int)<(((c::sc).length:Nat):Int) by rw[AAI];omega)];refine OX ?_;wtm_at "e";refine wp_of (a:=.int c) (μ':=μ) ?_ ?_
  ·show bnd (Co (.scr (c::sc))) (λds=>ixD ds 0) μ=_;rw[BN (show Co (.scr (c::sc)) μ=some ((c::sc).map D.int,μ) from rfl)];unfold ixD;rw[show atI ((c::sc).map D.int) 0=some (.int c) from Pp (j:=0) rfl];rfl
  exact⟨_,_,rfl,q c⟩
end
noncomputable def src:Sl->M (List D):=(Dv (AJ A0 (AF Dy (AB (AD 2) (AB (AD 3) AI))) (AF Dz (AB (AD 2) (AB (AD 3) AI)))))
noncomputable def UU:Sl->M (Fl×Sl):=(AQ (A2 (K2 (AV (AJ (Ak true) (AD 9) (AD 6))) (AV (AJ (Dr true) (AD 11) (mC .non)))) (Ab (mC (.bl false))) Ax)
  (AQ (A2 (Ei (AV (AJ (Dr false) (AD 6) (mC .non))) (AV (AJ (Ak true) (AD 8) (AF DE (AB (AD 5) AI))))) (Ab (mC (.bl false))) Ax)
  (A2 (Ei (AV (AJ (Dr true) (AD 6) (mC .non))) (K2 (AV (AJ (Ak true) (AD 8) (AJ Ea (AF DE (AB (AD 5) AI)) (mC (.int 1))))) (AV (AJ (Ak true) (AD 10) (AD 7))))) (Ab (mC (.bl false))) Ax)))
noncomputable def body:Sl->M (Fl×Sl):=(AQ (Bl (AF C0 (AB (AD 4) (AB (AD 5) AI))) (CN [8,9,10,11])) UU)
theorem OF:body=(AQ (Bl (AF C0 (AB (AD 4) (AB (AD 5) AI))) (CN [8,9,10,11])) UU):=rfl
noncomputable def BG:Sl->M (Fl×Sl):=AQ (DM src (CN [4,5,6,7]) body) (Ab (mC (.bl true)))
noncomputable def seg:List D->Sl->Mh->Option (Sl×Mh)
 |[],τ,μ=>some (τ,μ)
 |x::xs,τ,μ=>match CN [4,5,6,7] x τ μ with
  |some (τ1,μ1)=>match body τ1 μ1 with
   |some ((.next,τ2),μ2)=>seg xs τ2 μ2
   |_=>none
  |none=>none
theorem Oq{ys:List D}:∀{xs:List D} {τ τ1:Sl} {μ μ1:Mh},seg xs τ μ=some (τ1,μ1)->CB (CN [4,5,6,7]) body (xs++ys) τ μ=CB (CN [4,5,6,7]) body ys τ1 μ1
 |[],τ,τ1,μ,μ1,h=>by cases h;rfl
 |x::xs,τ,τ1,μ,μ1,h=>by
  unfold seg at h;split at h
  ·rename_i τ2 μ2 e1;split at h
   ·rename_i τ3 μ3 e2;show bnd (CN [4,5,6,7] x τ) (λτ1=>bnd (body τ1) λr=>match r.1 with | .next=>CB (CN [4,5,6,7]) body (xs++ys) r.2 | .cont=>CB (CN [4,5,6,7]) body (xs++ys) r.2 | .brk=>ret (.next,r.2) | .rt d=>ret (.rt d,r.2)) μ=_;rw[BN e1,BN e2];exact Oq h
   ·cases h
  ·cases h
noncomputable abbrev T(sc:List Int)(n t:Nat)(os:Sl):Sl:=some (.scr sc)::some (.ref 0)::some (.int (.ofNat n))::some (.int (.ofNat t))::os
noncomputable abbrev no:Sl:=[none,none,none,none,none,none,none,none]
noncomputable abbrev h2(a b:Int):Mh:=[.lst [.int a,.int b]]
noncomputable def cs(n t:Nat):List D:=match src (T [] n t no) (h2 0 0) with
 |some (ds,_)=>ds
 |none=>[]
abbrev Src(n t:Nat):Prop:=∀(sc:List Int) (a b:Int),src (T sc n t no) (h2 a b)=some (cs n t,h2 a b)
noncomputable def Y2:Option (Sl×Mh)->Option (Sl×Nat×Mh)
 |some (s0::s1::s2::s3::os,μ)=>some ([s0,s1,s2,s3],os.length,μ)
 |_=>none
abbrev Seg(n t i k:Nat):Prop:=∀(sc:List Int) (a b:Int) (o4 o5 o6 o7 o8 o9 o10 o11:Option D),Y2 (seg (((cs n t).drop i).take k) (T sc n t [o4,o5,o6,o7,o8,o9,o10,o11]) (h2 a b))=some ([some (.scr sc),some (.ref 0),some (.int (.ofNat n)),some (.int (.ofNat t))],8,h2 a b)
theorem aI{α:Type}{l:List α}(h:l.length=8):∃a b c d e f g i,l=[a,b,c,d,e,f,g,i]:=by
 rcases l with _|⟨a,_|⟨b,_|⟨c,_|⟨d,_|⟨e,_|⟨f,_|⟨g,_|⟨i,_|⟨j,l⟩⟩⟩⟩⟩⟩⟩⟩⟩
 all_goals first|exact⟨_,_,_,_,_,_,_,_,rfl⟩|cases h
section
variable{n t i k:Nat}{sc:List Int}{a b:Int}{os:Sl}{Q:Fl×Sl->Mh->Prop}
theorem Au(s:Seg n t i k)(h:∀os,List.length os=8->WP (CB (CN [4,5,6,7]) body ((cs n t).drop (i+k)) (T sc n t os)) (h2 a b) Q)(ho:List.length os=8):WP (CB (CN [4,5,6,7]) body ((cs n t).drop i) (T sc n t os)) (h2 a b) Q:=by
 obtain⟨o4,o5,o6,o7,o8,o9,o10,o11,rfl⟩:=aI ho;have e:=s sc a b o4 o5 o6 o7 o8 o9 o10 o11;unfold Y2 at e;split at e
 ·rename_i s0 s1 s2 s3 os' μ e1;simp only[Option.some.injEq,Prod.mk.injEq,List.cons.injEq,and_true] at e;obtain⟨⟨rfl,rfl,rfl,rfl⟩,hl,rfl⟩:=e;obtain⟨r,μ',e2,q⟩:=h os' hl;refine⟨r,μ',?_,q⟩;rw[←List.take_append_drop k ((cs n t).drop i),Oq e1,List.drop_drop];exact e2
 ·cases e
theorem BR(h:Nat.ble (cs n t).length i=true):∀os,List.length os=8->WP (CB (CN [4,5,6,7]) body ((cs n t).drop i) (T sc n t os)) (h2 a b) λr _=>r.1=.next:=λos ho=>by
 rw[List.drop_eq_nil_of_le (AAE h)];exact⟨_,_,rfl,rfl⟩
theorem start(s:Src n t)(h:WP (CB (CN [4,5,6,7]) body ((cs n t).drop 0) (T sc n t no)) (h2 a b) λr _=>r.1=.next):WP (BG (T sc n t no)) (h2 a b) λr _=>r.1=.rt (.bl true):=by
 unfold BG;rw[Bb];obtain⟨⟨f,τ⟩,μ,e,hf⟩:=h;have hf:f=.next:=hf;subst hf;refine⟨(.rt (.bl true),τ),μ,?_,rfl⟩;have e2:DM src (CN [4,5,6,7]) body (T sc n t no) (h2 a b)=some ((.next,τ),μ):=by
  unfold DM;rw[BN (s sc a b)];exact e
 unfold BV;rw[BN e2];rfl
end
abbrev ok(n t:Nat):Prop:=∀(sc:List Int) (a b:Int),WP (BG (T sc n t no)) (h2 a b) λr _=>r.1=.rt (.bl true)
noncomputable def wB:Sl->M (Fl×Sl):=(AQ (Bl (AF Db (AB (AD 0) (AB (AD 2) (AB (AJ AN (AD 1) (AD 3)) AI)))) (CN [4,5,6])) (AQ (A2 (AV (AJ (Dr true) (AD 5) (mC .non))) (Ab (AF AX (AB (AD 3) (AB (AD 5) (AB (AD 6) (AB (AD 4) AI)))))) Ax) (AZ (AD 4) 2)))
theorem NN:HW BY Db=(AQ (AZ (AF BY (AB (AD 0) AI)) 2) (AQ (DM (GC (AB (AF DE (AB (AD 1) AI)) AI)) (Aq 3) wB) (Ab (AF AX (AB (AF DE (AB (AD 1) AI)) (AB (mC .non) (AB (AF Ao AI) (AB (mC .non) AI)))))))):=rfl
noncomputable def sgW:List D->Sl->Mh->Option (Sl×Mh)
 |[],τ,μ=>some (τ,μ)
 |x::xs,τ,μ=>match Aq 3 x τ μ with
  |some (τ1,μ1)=>match wB τ1 μ1 with
   |some ((.next,τ2),μ2)=>sgW xs τ2 μ2
   |_=>none
  |none=>none
theorem Fs{ys:List D}:∀{xs:List D} {τ τ1:Sl} {μ μ1:Mh},sgW xs τ μ=some (τ1,μ1)->CB (Aq 3) wB (xs++ys) τ μ=CB (Aq 3) wB ys τ1 μ1
 |[],τ,τ1,μ,μ1,h=>by cases h;rfl
 |x::xs,τ,τ1,μ,μ1,h=>by
  unfold sgW at h;split at h
  ·rename_i τ2 μ2 e1;split at h
   ·rename_i τ3 μ3 e2;show bnd (Aq 3 x τ) (λτ1=>bnd (wB τ1) λr=>match r.1 with | .next=>CB (Aq 3) wB (xs++ys) r.2 | .cont=>CB (Aq 3) wB (xs++ys) r.2 | .brk=>ret (.next,r.2) | .rt d=>ret (.rt d,r.2)) μ=_;rw[BN e1,BN e2];exact Fs h
   ·cases h
  ·cases h
noncomputable def rep:Nat->D->List D->List D
 |0,_,tl=>tl
 |m+1,d,tl=>d::rep m d tl
noncomputable def wv(n:Nat)(tl:List D):D:=.lst (.tup [.str "w",.int (.ofNat n)]::rep 400 (.tup [.str "w",.int 0]) tl)
noncomputable def Zp:D:=.tup [.str "put",.str "a",.tup [.str "var",.str "v"]]
noncomputable def aA:D:=.tup [.str "jump",.int 0]
noncomputable def bY(n:Nat):Nat->List D
 |0=>[Zp,aA]
 |_=>[.tup [.str "let",.str "x",.tup [.str "num",.int (.ofNat n)]],Zp,aA]
noncomputable def mkA(n t:Nat):D:=.tup [.str "safe",.int 9,.int 0,.tup [.tup [.str "a",.str "whole",.int 9,.int 0,.str "w"]],.tup [.tup [.str "w",.int 400,.tup (bY n t)],.tup [.str "r",.int 0,.tup [.tup [.str "tell",.tup [.str "num",.int 0]]]]]]
noncomputable def bp(n:Nat):Nat->List D
 |0=>[]
 |_=>[.int (.ofNat n)]
noncomputable def stK(n t k:Nat):D:=.tup [.tup [.tup [.int (.ofNat t),.non,.int (.ofNat n),.int (.ofNat k),.tup (bp n t)],.tup [.int (-1),.non,.int 0,.int 0,.tup []]],.tup [.tup [.int (.ofNat n),.int (-1)]],.tup [.int 0,.int (.ofNat n),.tup [.non]]]
noncomputable def tK(n t k:Nat)(tl:List D):Sl:=[some (mkA n t),some (wv n tl),some (stK n t k),some (.int (.ofNat k)),some (stK n t k),some .non,some (.lst [])]
noncomputable def JQ(a m:Nat):List D:=(List.range' a m).map λi=>D.int (.ofNat i)
noncomputable def t0(n t:Nat)(tl:List D)(μ:Mh):Option ((Fl×Sl)×Mh):=AZ (AF BY (AB (AD 0) AI)) 2 (CD 7 [mkA n t,wv n tl]) μ
noncomputable abbrev st0(n t:Nat):D:=.tup [.tup [.tup [.int (-1),.non,.int 0,.int 0,.tup (match t with|0=>[]|_=>[.int 0])],.tup [.int (-1),.non,.int 0,.int 0,.tup []]],.tup [.tup [.int 0,.int (-1)]],.tup [.int 0,.int (-1),.tup [.non]]]
noncomputable abbrev tS(n t:Nat)(tl:List D):Sl:=[some (mkA n t),some (wv n tl),some (st0 n t),none,none,none,none]
abbrev W0(n t:Nat):Prop:=∀(a b:Int) (tl:List D),t0 n t tl (h2 a b)=some ((.next,tS n t tl),h2 a b)
abbrev W1(n t:Nat):Prop:=∀(a b:Int) (tl:List D),sgW (JQ 0 101) (tS n t tl) (h2 a b)=some (tK n t 100 tl,h2 a b)
abbrev W2(n t k:Nat):Prop:=∀(a b:Int) (tl:List D),sgW (JQ (k+1) 100) (tK n t k tl) (h2 a b)=some (tK n t (k+100) tl,h2 a b)
theorem CW{mk w d:D}{τ0 τ1 τ2 τ3 τ4 τ:Sl}{μ:Mh}{l1 l2 l3 l4 l5:List D}(w0:AZ (AF BY (AB (AD 0) AI)) 2 (CD 7 [mk,w]) μ=some ((.next,τ0),μ))(hr:GC (AB (AF DE (AB (AD 1) AI)) AI) τ0 μ=some (l1++(l2++(l3++(l4++l5))),μ))
  (w1:sgW l1 τ0 μ=some (τ1,μ)) (w2:sgW l2 τ1 μ=some (τ2,μ)) (w3:sgW l3 τ2 μ=some (τ3,μ)) (w4:sgW l4 τ3 μ=some (τ4,μ)) {f:Fl} {τ5:Sl} (w5:CB (Aq 3) wB l5 τ4 μ=some ((f,τ5),μ))
  (he:(match f with | .next=>Ab (AF AX (AB (AF DE (AB (AD 1) AI)) (AB (mC .non) (AB (AF Ao AI) (AB (mC .non) AI))))) τ5 μ|f=>some ((f,τ5),μ))=some ((.rt d,τ),μ)) (hc:Kx μ .drop d μ=some (d,μ)) :
  C0 [mk,w] μ=some (d,μ):=by
 have e2:HW BY Db (CD 7 [mk,w]) μ=some ((.rt d,τ),μ):=by
  rw[NN,Bb];unfold BV;rw[BN w0];dsimp only;rw[Bb];unfold BV;have e3:DM (GC (AB (AF DE (AB (AD 1) AI)) AI)) (Aq 3) wB τ0 μ=some ((f,τ5),μ):=by
   unfold DM;rw[BN hr];rw[Fs w1,Fs w2,Fs w3,Fs w4];exact w5
  rw[BN e3];cases f<;>exact he
 unfold C0 Aj;rw[show Nat.beq (List.length [mk,w]) 2=true from rfl,e2];exact hc
theorem ES{n t i:Nat}{mk w due ev r1 r2 r3 r4:D}(hx:((cs n t).drop i).take 1=[.tup [mk,w,due,ev]])(hw:∀a b:Int,C0 [mk,w] (h2 a b)=some (.tup [r1,r2,r3,r4],h2 a b))
  (hb:∀(sc:List Int) (a b:Int),UU (T sc n t [some mk,some w,some due,some ev,some r1,some r2,some r3,some r4]) (h2 a b)=some ((.next,T sc n t [some mk,some w,some due,some ev,some r1,some r2,some r3,some r4]),h2 a b)):Seg n t i 1:=by
 intro sc a b o4 o5 o6 o7 o8 o9 o10 o11;rw[hx];have e2:body (T sc n t [some mk,some w,some due,some ev,o8,o9,o10,o11]) (h2 a b)=some ((.next,T sc n t [some mk,some w,some due,some ev,some r1,some r2,some r3,some r4]),h2 a b):=by
  rw[OF,Bb];unfold BV;have e3:Bl (AF C0 (AB (AD 4) (AB (AD 5) AI))) (CN [8,9,10,11]) (T sc n t [some mk,some w,some due,some ev,o8,o9,o10,o11]) (h2 a b)=some ((.next,T sc n t [some mk,some w,some due,some ev,some r1,some r2,some r3,some r4]),h2 a b):=by
   unfold Bl;rw[BN (show AF C0 (AB (AD 4) (AB (AD 5) AI)) (T sc n t [some mk,some w,some due,some ev,o8,o9,o10,o11]) (h2 a b)=some (.tup [r1,r2,r3,r4],h2 a b) from hw a b)];rfl
  rw[BN e3];exact hb sc a b
 have e1:seg [.tup [mk,w,due,ev]] (T sc n t [o4,o5,o6,o7,o8,o9,o10,o11]) (h2 a b)=some (T sc n t [some mk,some w,some due,some ev,some r1,some r2,some r3,some r4],h2 a b):=by
  unfold seg;rw[show CN [4,5,6,7] (.tup [mk,w,due,ev]) (T sc n t [o4,o5,o6,o7,o8,o9,o10,o11]) (h2 a b)=some (T sc n t [some mk,some w,some due,some ev,o8,o9,o10,o11],h2 a b) from rfl];dsimp only;rw[e2];rfl
 rw[e1];rfl
theorem u00:Src 0 0:=λ_ _ _=>by kernel_rfl
theorem bX:Seg 0 0 0 24:=λ_ _ _ _ _ _ _ _ _ _ _=>by kernel_rfl
theorem g00:ok 0 0:=λsc a b=>start u00 ((λ_=>Au bX (BR (by kernel_rfl))) no rfl)
theorem u01:Src 0 1:=λ_ _ _=>by kernel_rfl
theorem bW:Seg 0 1 0 24:=λ_ _ _ _ _ _ _ _ _ _ _=>by kernel_rfl
theorem g01:ok 0 1:=λsc a b=>start u01 ((λ_=>Au bW (BR (by kernel_rfl))) no rfl)
theorem u10:Src 1 0:=λ_ _ _=>by kernel_rfl
theorem bV:Seg 1 0 0 8:=λ_ _ _ _ _ _ _ _ _ _ _=>by kernel_rfl
theorem ZM:W0 1 0:=λ_ _ _=>by kernel_rfl
theorem ZL:W1 1 0:=λ_ _ _=>by kernel_rfl
theorem ZK:W2 1 0 100:=λ_ _ _=>by kernel_rfl
theorem ZJ:W2 1 0 200:=λ_ _ _=>by kernel_rfl
theorem ZI:W2 1 0 300:=λ_ _ _=>by kernel_rfl
theorem bU:Seg 1 0 8 1:=ES (mk:=mkA 1 0) (w:=wv 1 []) (due:=.non) (ev:=.lst []) (r1:=.int 401) (r2:=.non) (r3:=.lst []) (r4:=.non) (by kernel_rfl) (λa b=>CW (l5:=JQ 401 0) (f:=.next) (τ5:=tK 1 0 400 []) (τ:=tK 1 0 400 []) (ZM a b _) (by kernel_rfl) (ZL a b _) (ZK a b _) (ZJ a b _) (ZI a b _) (by kernel_rfl) (by kernel_rfl) (by kernel_rfl)) (λsc a b=>by kernel_rfl)
theorem bT:Seg 1 0 9 1:=ES (mk:=mkA 1 0) (w:=wv 1 [.tup [.str "w",.int 0]]) (due:=.tup [.str "long",.str "w"]) (ev:=.lst []) (r1:=.int 401) (r2:=.tup [.str "long",.str "w"]) (r3:=.lst []) (r4:=.non) (by kernel_rfl) (λa b=>CW (l5:=JQ 401 1) (f:=.rt (.tup [.int 401,.tup [.str "long",.str "w"],.lst [],.non])) (τ5:=[some (mkA 1 0),some (wv 1 [.tup [.str "w",.int 0]]),some (stK 1 0 400),some (.int 401),some .non,some (.tup [.str "long",.str "w"]),some (.lst [])]) (τ:=[some (mkA 1 0),some (wv 1 [.tup [.str "w",.int 0]]),some (stK 1 0 400),some (.int 401),some .non,some (.tup [.str "long",.str "w"]),some (.lst [])]) (ZM a b _) (by kernel_rfl) (ZL a b _) (ZK a b _) (ZJ a b _) (ZI a b _) (by kernel_rfl) (by kernel_rfl) (by kernel_rfl)) (λsc a b=>by kernel_rfl)
theorem bS:Seg 1 0 10 15:=λ_ _ _ _ _ _ _ _ _ _ _=>by kernel_rfl
theorem g10:ok 1 0:=λsc a b=>start u10 ((λ_=>Au bV (λ_=>Au bU (λ_=>Au bT (λ_=>Au bS (BR (by kernel_rfl)))))) no rfl)
theorem u11:Src 1 1:=λ_ _ _=>by kernel_rfl
theorem bR:Seg 1 1 0 8:=λ_ _ _ _ _ _ _ _ _ _ _=>by kernel_rfl
theorem ZH:W0 1 1:=λ_ _ _=>by kernel_rfl
theorem ZG:W1 1 1:=λ_ _ _=>by kernel_rfl
theorem ZF:W2 1 1 100:=λ_ _ _=>by kernel_rfl
theorem ZE:W2 1 1 200:=λ_ _ _=>by kernel_rfl
theorem ZD:W2 1 1 300:=λ_ _ _=>by kernel_rfl
theorem bQ:Seg 1 1 8 1:=ES (mk:=mkA 1 1) (w:=wv 1 []) (due:=.non) (ev:=.lst []) (r1:=.int 401) (r2:=.non) (r3:=.lst []) (r4:=.non) (by kernel_rfl) (λa b=>CW (l5:=JQ 401 0) (f:=.next) (τ5:=tK 1 1 400 []) (τ:=tK 1 1 400 []) (ZH a b _) (by kernel_rfl) (ZG a b _) (ZF a b _) (ZE a b _) (ZD a b _) (by kernel_rfl) (by kernel_rfl) (by kernel_rfl)) (λsc a b=>by kernel_rfl)
theorem bP:Seg 1 1 9 1:=ES (mk:=mkA 1 1) (w:=wv 1 [.tup [.str "w",.int 0]]) (due:=.tup [.str "long",.str "w"]) (ev:=.lst []) (r1:=.int 401) (r2:=.tup [.str "long",.str "w"]) (r3:=.lst []) (r4:=.non) (by kernel_rfl) (λa b=>CW (l5:=JQ 401 1) (f:=.rt (.tup [.int 401,.tup [.str "long",.str "w"],.lst [],.non])) (τ5:=[some (mkA 1 1),some (wv 1 [.tup [.str "w",.int 0]]),some (stK 1 1 400),some (.int 401),some .non,some (.tup [.str "long",.str "w"]),some (.lst [])]) (τ:=[some (mkA 1 1),some (wv 1 [.tup [.str "w",.int 0]]),some (stK 1 1 400),some (.int 401),some .non,some (.tup [.str "long",.str "w"]),some (.lst [])]) (ZH a b _) (by kernel_rfl) (ZG a b _) (ZF a b _) (ZE a b _) (ZD a b _) (by kernel_rfl) (by kernel_rfl) (by kernel_rfl)) (λsc a b=>by kernel_rfl)
theorem bO:Seg 1 1 10 15:=λ_ _ _ _ _ _ _ _ _ _ _=>by kernel_rfl
theorem g11:ok 1 1:=λsc a b=>start u11 ((λ_=>Au bR (λ_=>Au bQ (λ_=>Au bP (λ_=>Au bO (BR (by kernel_rfl)))))) no rfl)
theorem u20:Src 2 0:=λ_ _ _=>by kernel_rfl
theorem bN:Seg 2 0 0 25:=λ_ _ _ _ _ _ _ _ _ _ _=>by kernel_rfl
theorem g20:ok 2 0:=λsc a b=>start u20 ((λ_=>Au bN (BR (by kernel_rfl))) no rfl)
theorem u21:Src 2 1:=λ_ _ _=>by kernel_rfl
theorem bM:Seg 2 1 0 25:=λ_ _ _ _ _ _ _ _ _ _ _=>by kernel_rfl
theorem g21:ok 2 1:=λsc a b=>start u21 ((λ_=>Au bM (BR (by kernel_rfl))) no rfl)
theorem u30:Src 3 0:=λ_ _ _=>by kernel_rfl
theorem bL:Seg 3 0 0 25:=λ_ _ _ _ _ _ _ _ _ _ _=>by kernel_rfl
theorem g30:ok 3 0:=λsc a b=>start u30 ((λ_=>Au bL (BR (by kernel_rfl))) no rfl)
theorem u31:Src 3 1:=λ_ _ _=>by kernel_rfl
theorem bK:Seg 3 1 0 25:=λ_ _ _ _ _ _ _ _ _ _ _=>by kernel_rfl
theorem g31:ok 3 1:=λsc a b=>start u31 ((λ_=>Au bK (BR (by kernel_rfl))) no rfl)
theorem u40:Src 4 0:=λ_ _ _=>by kernel_rfl
theorem bJ:Seg 4 0 0 27:=λ_ _ _ _ _ _ _ _ _ _ _=>by kernel_rfl
theorem g40:ok 4 0:=λsc a b=>start u40 ((λ_=>Au bJ (BR (by kernel_rfl))) no rfl)
theorem u41:Src 4 1:=λ_ _ _=>by kernel_rfl
theorem bI:Seg 4 1 0 27:=λ_ _ _ _ _ _ _ _ _ _ _=>by kernel_rfl
theorem g41:ok 4 1:=λsc a b=>start u41 ((λ_=>Au bI (BR (by kernel_rfl))) no rfl)
theorem u50:Src 5 0:=λ_ _ _=>by kernel_rfl
theorem bH:Seg 5 0 0 11:=λ_ _ _ _ _ _ _ _ _ _ _=>by kernel_rfl
theorem ZC:W0 5 0:=λ_ _ _=>by kernel_rfl
theorem ZB:W1 5 0:=λ_ _ _=>by kernel_rfl
theorem ZA:W2 5 0 100:=λ_ _ _=>by kernel_rfl
theorem Y9:W2 5 0 200:=λ_ _ _=>by kernel_rfl
theorem Y8:W2 5 0 300:=λ_ _ _=>by kernel_rfl
theorem bG:Seg 5 0 11 1:=ES (mk:=mkA 5 0) (w:=wv 5 []) (due:=.non) (ev:=.lst []) (r1:=.int 401) (r2:=.non) (r3:=.lst []) (r4:=.non) (by kernel_rfl) (λa b=>CW (l5:=JQ 401 0) (f:=.next) (τ5:=tK 5 0 400 []) (τ:=tK 5 0 400 []) (ZC a b _) (by kernel_rfl) (ZB a b _) (ZA a b _) (Y9 a b _) (Y8 a b _) (by kernel_rfl) (by kernel_rfl) (by kernel_rfl)) (λsc a b=>by kernel_rfl)
theorem bF:Seg 5 0 12 1:=ES (mk:=mkA 5 0) (w:=wv 5 [.tup [.str "w",.int 0]]) (due:=.tup [.str "long",.str "w"]) (ev:=.lst []) (r1:=.int 401) (r2:=.tup [.str "long",.str "w"]) (r3:=.lst []) (r4:=.non) (by kernel_rfl) (λa b=>CW (l5:=JQ 401 1) (f:=.rt (.tup [.int 401,.tup [.str "long",.str "w"],.lst [],.non])) (τ5:=[some (mkA 5 0),some (wv 5 [.tup [.str "w",.int 0]]),some (stK 5 0 400),some (.int 401),some .non,some (.tup [.str "long",.str "w"]),some (.lst [])]) (τ:=[some (mkA 5 0),some (wv 5 [.tup [.str "w",.int 0]]),some (stK 5 0 400),some (.int 401),some .non,some (.tup [.str "long",.str "w"]),some (.lst [])]) (ZC a b _) (by kernel_rfl) (ZB a b _) (ZA a b _) (Y9 a b _) (Y8 a b _) (by kernel_rfl) (by kernel_rfl) (by kernel_rfl)) (λsc a b=>by kernel_rfl)
theorem bE:Seg 5 0 13 15:=λ_ _ _ _ _ _ _ _ _ _ _=>by kernel_rfl
theorem g50:ok 5 0:=λsc a b=>start u50 ((λ_=>Au bH (λ_=>Au bG (λ_=>Au bF (λ_=>Au bE (BR (by kernel_rfl)))))) no rfl)
theorem u51:Src 5 1:=λ_ _ _=>by kernel_rfl
theorem bD:Seg 5 1 0 11:=λ_ _ _ _ _ _ _ _ _ _ _=>by kernel_rfl
theorem Y7:W0 5 1:=λ_ _ _=>by kernel_rfl
theorem Y6:W1 5 1:=λ_ _ _=>by kernel_rfl
theorem Y5:W2 5 1 100:=λ_ _ _=>by kernel_rfl
theorem Y4:W2 5 1 200:=λ_ _ _=>by kernel_rfl
theorem Y3:W2 5 1 300:=λ_ _ _=>by kernel_rfl
theorem bC:Seg 5 1 11 1:=ES (mk:=mkA 5 1) (w:=wv 5 []) (due:=.non) (ev:=.lst []) (r1:=.int 401) (r2:=.non) (r3:=.lst []) (r4:=.non) (by kernel_rfl) (λa b=>CW (l5:=JQ 401 0) (f:=.next) (τ5:=tK 5 1 400 []) (τ:=tK 5 1 400 []) (Y7 a b _) (by kernel_rfl) (Y6 a b _) (Y5 a b _) (Y4 a b _) (Y3 a b _) (by kernel_rfl) (by kernel_rfl) (by kernel_rfl)) (λsc a b=>by kernel_rfl)
theorem bB:Seg 5 1 12 1:=ES (mk:=mkA 5 1) (w:=wv 5 [.tup [.str "w",.int 0]]) (due:=.tup [.str "long",.str "w"]) (ev:=.lst []) (r1:=.int 401) (r2:=.tup [.str "long",.str "w"]) (r3:=.lst []) (r4:=.non) (by kernel_rfl) (λa b=>CW (l5:=JQ 401 1) (f:=.rt (.tup [.int 401,.tup [.str "long",.str "w"],.lst [],.non])) (τ5:=[some (mkA 5 1),some (wv 5 [.tup [.str "w",.int 0]]),some (stK 5 1 400),some (.int 401),some .non,some (.tup [.str "long",.str "w"]),some (.lst [])]) (τ:=[some (mkA 5 1),some (wv 5 [.tup [.str "w",.int 0]]),some (stK 5 1 400),some (.int 401),some .non,some (.tup [.str "long",.str "w"]),some (.lst [])]) (Y7 a b _) (by kernel_rfl) (Y6 a b _) (Y5 a b _) (Y4 a b _) (Y3 a b _) (by kernel_rfl) (by kernel_rfl) (by kernel_rfl)) (λsc a b=>by kernel_rfl)
theorem bA:Seg 5 1 13 15:=λ_ _ _ _ _ _ _ _ _ _ _=>by kernel_rfl
theorem g51:ok 5 1:=λsc a b=>start u51 ((λ_=>Au bD (λ_=>Au bC (λ_=>Au bB (λ_=>Au bA (BR (by kernel_rfl)))))) no rfl)
theorem u60:Src 6 0:=λ_ _ _=>by kernel_rfl
theorem a9:Seg 6 0 0 25:=λ_ _ _ _ _ _ _ _ _ _ _=>by kernel_rfl
theorem g60:ok 6 0:=λsc a b=>start u60 ((λ_=>Au a9 (BR (by kernel_rfl))) no rfl)
theorem u61:Src 6 1:=λ_ _ _=>by kernel_rfl
theorem a8:Seg 6 1 0 25:=λ_ _ _ _ _ _ _ _ _ _ _=>by kernel_rfl
theorem g61:ok 6 1:=λsc a b=>start u61 ((λ_=>Au a8 (BR (by kernel_rfl))) no rfl)
theorem u70:Src 7 0:=λ_ _ _=>by kernel_rfl
theorem a7:Seg 7 0 0 25:=λ_ _ _ _ _ _ _ _ _ _ _=>by kernel_rfl
theorem g70:ok 7 0:=λsc a b=>start u70 ((λ_=>Au a7 (BR (by kernel_rfl))) no rfl)
theorem u71:Src 7 1:=λ_ _ _=>by kernel_rfl
theorem a6:Seg 7 1 0 25:=λ_ _ _ _ _ _ _ _ _ _ _=>by kernel_rfl
theorem g71:ok 7 1:=λsc a b=>start u71 ((λ_=>Au a6 (BR (by kernel_rfl))) no rfl)
theorem u80:Src 8 0:=λ_ _ _=>by kernel_rfl
theorem a0:Seg 8 0 0 27:=λ_ _ _ _ _ _ _ _ _ _ _=>by kernel_rfl
theorem g80:ok 8 0:=λsc a b=>start u80 ((λ_=>Au a0 (BR (by kernel_rfl))) no rfl)
theorem u81:Src 8 1:=λ_ _ _=>by kernel_rfl
theorem az:Seg 8 1 0 27:=λ_ _ _ _ _ _ _ _ _ _ _=>by kernel_rfl
theorem g81:ok 8 1:=λsc a b=>start u81 ((λ_=>Au az (BR (by kernel_rfl))) no rfl)
theorem go:∀(n t:Nat),n<9->t<2->ok n t
 |0,0,_,_=>g00
 |0,1,_,_=>g01
 |1,0,_,_=>g10
 |1,1,_,_=>g11
 |2,0,_,_=>g20
 |2,1,_,_=>g21
 |3,0,_,_=>g30
 |3,1,_,_=>g31
 |4,0,_,_=>g40
 |4,1,_,_=>g41
 |5,0,_,_=>g50
 |5,1,_,_=>g51
 |6,0,_,_=>g60
 |6,1,_,_=>g61
 |7,0,_,_=>g70
 |7,1,_,_=>g71
 |8,0,_,_=>g80
 |8,1,_,_=>g81
 |n+9,_,h,_=>absurd h (by omega)
 |_,t+2,_,h=>absurd h (by omega)
theorem XR{sc:List Int}:WP (Mj [.scr sc]) [] λd _=>d=.bl true:=by
 unfold Mj;refine P4 rfl ?_;show WP ((AQ (AZ (AF Dd (AB (AF DA (AB (AD 0) (AB (mC (.int 0)) AI))) (AB (mC (.int 4)) AI))) 1) (AQ (AZ (AJ BP (AJ DO (Dw Nd (AD 1)) (mC (.int 3))) (mC (.int 9))) 2) (AQ (AZ (AJ BP (AJ DO (Dw Nd (AD 1)) (mC (.int 3))) (mC (.int 2))) 3) BG))) (CD 12 [.scr sc])) [] _;simp only[Bt,Cz,Bu,By,Bb,CF,Cu,CK,Cy,Bs,CG,B1,CI];wtm_at "e";refine Us λx=>?_;wtm_at "e";refine P3 λl hl=>?_;wtm_at "e";obtain⟨a,b,c,d,rfl⟩:∃a b c d,l=[a,b,c,d]:=by
  rcases l with _|⟨a,_|⟨b,_|⟨c,_|⟨d,_|⟨e,l⟩⟩⟩⟩⟩
  all_goals first|exact⟨_,_,_,_,rfl⟩|cases hl
 refine wp_of (a:=.int d) (μ':=[.lst [.int a,.int b,.int c]]) rfl ?_;wtm_at "e";refine wp_of (a:=.int c) (μ':=[.lst [.int a,.int b]]) rfl ?_;wtm_at "e";obtain⟨n,en,hn⟩:∃n:Nat,d / 3 % 9=Int.ofNat n/\n<9:=⟨(d / 3 % 9).toNat,(Int.toNat_of_nonneg (by omega)).symm,by omega⟩;obtain⟨t,et,ht⟩:∃t:Nat,c / 3 % 2=Int.ofNat t/\t<2:=⟨(c / 3 % 2).toNat,(Int.toNat_of_nonneg (by omega)).symm,by omega⟩;rw[en,et];exact go n t hn ht sc a b
theorem math(sc:List Int)(h:sc.length<=63):∃μ',Mj [.scr sc] []=some (.bl true,μ'):=by
 obtain⟨a,μ',e,rfl⟩:=XR (sc:=sc);exact⟨μ',e⟩
end K24
open PySem PySem.W PyProof.Rows
local macro_rules | `(tactic| wtm_at "d")=>`(tactic| (refine' Mi.aO ?qa ?ql ?qc ?qk;(case qa=>k_is);(case ql=>k_is);(case qc=>k_is);(case qk=>k_is)))
local macro_rules | `(tactic| wtm_at "p")=>`(tactic| (refine' Mi.aP ?qa ?qb ?qc ?qd ?qe ?qf;(case qa=>k_is);(case qb=>k_is);(case qc=>k_is);(case qd=>k_is);(case qe=>k_is)))
local macro_rules | `(tactic| wtm_at "q")=>`(tactic| (refine' Mi.aN ?qa ?qb ?qc ?qd ?qe ?qf ?qg ?qh;(case qa=>k_is);(case qb=>k_is);(case qc=>k_is);(case qd=>k_is);(case qe=>k_is);(case qf=>k_is);(case qg=>k_is);(case qh=>k_is)))
local macro_rules | `(tactic| wtm_at "k")=>`(tactic| (refine' Mi.aM ?qa ?qb ?qc ?qd ?qe ?qf ?qg ?qh ?qi ?qj;(case qa=>k_is);(case qb=>k_is);(case qc=>k_is);(case qd=>k_is);(case qe=>k_is);(case qf=>k_is);(case qg=>k_is);(case qh=>k_is);(case qi=>k_is);(case qj=>k_is)))
local macro_rules | `(tactic| wtm_at "i")=>`(tactic| (refine' Mi.ZN ?pl ?pe;(case pl=>k_is);(case pe=>rfl)))
set_option maxRecDepth 100000 in
set_option maxHeartbeats 0 in
theorem PySem.Challenge.cw_strongboxes_k24_how_a_step_breaks_holds : PySem.Challenge.rw_strongboxes_k24_how_a_step_breaks.Holds := by
 w_on;o_law;k_head;(case hw=>w_witness2)
 k_fill
 refine Mi.Y1 (k:=20) (l:=PySem.Challenge.rw_strongboxes_k24_how_a_step_breaks) rfl rfl (by decide) (λw h Y=>PySem.W.kIn_of Y) ?F
 case F=>
  intro w mg fa h KX G hmg;refine' K24.all_mk K24.math ⟨KX,G,?e0,?e1,?e2,?e3,?e4,?e5,?e6,?e7,?e8,?e9,?e10,?e11,?e12,?e13,?e14,?e15,?e16,?e17,?e18,?e19,?e20,?e21,?e22,?e23,?e24,?e25,?e26,?e27,?e28,?e29,?e30,?e31,?e32,?e33,?e34,?e35,?e36,?e37,?e38,?e39,?e40,?e41,?e42,?e43,?e44,?e45,?e46,?e47,?e48,?e49,?e50,?e51,?e52,?e53,?e54,?e55,(PySem.W.mg_none_of KX G ?z0),(PySem.W.mg_none_of KX G ?z1),(PySem.W.mg_none_of KX G ?z2),(PySem.W.mg_none_of KX G ?z3),(PySem.W.mg_none_of KX G ?z4),(PySem.W.mg_none_of KX G ?z5),(PySem.W.mg_none_of KX G ?z6),(PySem.W.mg_none_of KX G ?z7),(PySem.W.mg_none_of KX G ?z8),(PySem.W.mg_none_of KX G ?z9),(PySem.W.mg_none_of KX G ?z10),(PySem.W.mg_none_of KX G ?z11),(PySem.W.mg_none_of KX G ?z12),(PySem.W.mg_none_of KX G ?z13),?gk0,?gk1,?gk2,?gk3,?gk4,?gk5,?gk6⟩ hmg
  (case e0=>wtm_at "d")
  (case e1=>wtm_at "d")
  (case e2=>wtm_at "d")
  (case e3=>wtm_at "d")
  (case e4=>wtm_at "d")
  (case e5=>wtm_at "d")
  (case e6=>wtm_at "d")
  (case e7=>wtm_at "d")
  (case e8=>wtm_at "d")
  (case e9=>wtm_at "q")
  (case e10=>wtm_at "d")
  (case e11=>wtm_at "d")
  (case e12=>wtm_at "d")
  (case e13=>wtm_at "d")
  (case e14=>wtm_at "d")
  (case e15=>wtm_at "k")
  (case e16=>wtm_at "d")
  (case e17=>wtm_at "d")
  (case e18=>wtm_at "d")
  (case e19=>wtm_at "d")
  (case e20=>wtm_at "d")
  (case e21=>wtm_at "d")
  (case e22=>wtm_at "d")
  (case e23=>wtm_at "d")
  (case e24=>wtm_at "d")
  (case e25=>wtm_at "d")
  (case e26=>wtm_at "d")
  (case e27=>wtm_at "d")
  (case e28=>wtm_at "d")
  (case e29=>wtm_at "d")
  (case e30=>wtm_at "d")
  (case e31=>wtm_at "d")
  (case e32=>wtm_at "k")
  (case e33=>wtm_at "k")
  (case e34=>wtm_at "d")
  (case e35=>wtm_at "d")
  (case e36=>wtm_at "d")
  (case e37=>wtm_at "d")
  (case e38=>wtm_at "d")
  (case e39=>wtm_at "d")
  (case e40=>wtm_at "k")
  (case e41=>wtm_at "d")
  (case e42=>wtm_at "d")
  (case e43=>wtm_at "d")
  (case e44=>wtm_at "d")
  (case e45=>wtm_at "k")
  (case e46=>wtm_at "d")
  (case e47=>wtm_at "d")
  (case e48=>wtm_at "d")
  (case e49=>wtm_at "d")
  (case e50=>wtm_at "d")
  (case e51=>wtm_at "d")
  (case e52=>wtm_at "d")
  (case e53=>wtm_at "d")
  (case e54=>wtm_at "d")
  (case e55=>wtm_at "p";exact⟨by k_is,by k_is,by k_is,by k_is,by k_is,by k_is,trivial⟩)
  (case z0=>k_is)
  (case z1=>k_is)
  (case z2=>k_is)
  (case z3=>k_is)
  (case z4=>k_is)
  (case z5=>k_is)
  (case z6=>k_is)
  (case z7=>k_is)
  (case z8=>k_is)
  (case z9=>k_is)
  (case z10=>k_is)
  (case z11=>k_is)
  (case z12=>k_is)
  (case z13=>k_is)
  (case gk0=>refine' Mi.GD KX G ?qa;(case qa=>k_is))
  (case gk1=>refine' Mi.GD KX G ?qa;(case qa=>k_is))
  (case gk2=>refine' Mi.GD KX G ?qa;(case qa=>k_is))
  (case gk3=>refine' Mi.GD KX G ?qa;(case qa=>k_is))
  (case gk4=>refine' Mi.WB (xs:=["let", "jump", "unless"]) KX G ?qa ?ql ?qh;(case qa=>k_is);(case ql=>wtm_at "i");(case qh=>decide))
  (case gk5=>refine' Mi.GD KX G ?qa;(case qa=>k_is))
  (case gk6=>refine' Mi.Vz KX G ?qa ?ql ?qk ?qs ?qT;(case qa=>k_is);(case ql=>k_is);(case qk=>exact⟨⟨_,_,rfl,rfl⟩,⟨⟨_,_,rfl,rfl⟩,⟨⟨_,_,rfl,rfl⟩,⟨⟨_,_,rfl,rfl⟩,⟨⟨_,_,rfl,rfl⟩,⟨⟨_,_,rfl,rfl⟩,⟨⟨_,_,rfl,rfl⟩,trivial⟩⟩⟩⟩⟩⟩⟩);(case qs=>rfl);(case qT=>refine' ⟨_,_,_,_,_,rfl,rfl,rfl,?qt,?qu,?_⟩;(case qt=>wtm_at "i");(case qu=>decide);refine' ⟨_,_,_,_,_,rfl,rfl,rfl,?qt,?qu,?_⟩;(case qt=>wtm_at "i");(case qu=>decide);refine' ⟨_,_,_,_,_,rfl,rfl,rfl,?qt,?qu,?_⟩;(case qt=>wtm_at "i");(case qu=>decide);refine' ⟨_,_,_,_,_,rfl,rfl,rfl,?qt,?qu,?_⟩;(case qt=>wtm_at "i");(case qu=>decide);refine' ⟨_,_,_,_,_,rfl,rfl,rfl,?qt,?qu,?_⟩;(case qt=>wtm_at "i");(case qu=>decide);refine' ⟨_,_,_,_,_,rfl,rfl,rfl,?qt,?qu,?_⟩;(case qt=>wtm_at "i");(case qu=>decide);refine' ⟨_,_,_,_,_,rfl,rfl,rfl,?qt,?qu,?_⟩;(case qt=>wtm_at "i");(case qu=>decide);rfl))
