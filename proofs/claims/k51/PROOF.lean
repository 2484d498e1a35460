import PyProof.Rows.All
import Wide.All
import OpenK.AllK
import Wide.FinOn
import Lean
import PyProof.EqAt
import PyProof.EqKinds
import PyProof.TupleCall
import PySem.Challenge.RW_notefall_k51_read_wherever_notes_lie
set_option bootstrap.genMatcherCode false
set_option linter.all false
variable{p:Prop}
section
open PySem PySem.Spec PyProof.Rows
def ab:=@List.length_map
def ae:=@PySem.Heap.get?_push_of_some
def ag:=@PySem.Heap.lt_size
def ar:=@Nat.le_refl
def ax:=@List.length_append
def a9:=@List.getElem?_eq_getElem
def ba:=@List.mem_of_getElem?
def bb:=@List.getElem?_map
def bc:=@List.getElem?_eq_some_iff
def bj:=@Option.map_eq_some_iff
def bo:=@List.map_append
def bp:=@Nat.lt_of_lt_of_le
def cb:=@PySem.Heap.get?_push_size
def cf:=@List.mem_append_right
def cm:=@Bool.and_eq_true
def cn:=@Nat.le_trans
def cp:=@List.size_toArray
def cq:=@Array.getElem?_eq_getElem
def cv:=@Nat.ne_of_lt
def cw:=@List.mem_singleton
def cx:=@List.mem_cons_of_mem
def da:=@List.mem_append
def de:=@List.getElem?_zip_eq_some
def dn:=@List.map_map
def dq:=@List.mem_cons_self
def dr:=@Bool.false_ne_true
def dt:=@Nat.lt_of_le_of_lt
def dv:=@List.take_length
def dy:=@PyProof.Rows.callWith_type1
def dC:=@Array.length_toList
def eC:=@PySem.Heap.size_push
def eI:=@List.all_eq_true
def eP:=@List.mem_map_of_mem
def eQ:=@Array.getD_eq_getD_getElem?
def fb:=@List.length_take
def fg:=@Nat.le_of_lt
def fi:=@Nat.ne_of_gt
def fo:=@List.length_reverse
def fv:=@List.mem_iff_getElem
def fw:=@Nat.lt_irrefl
def fI:=@Bool.false_eq_true
def gs:=@List.mem_map
def gL:=@Nat.le_add_right
def gN:=@PySem.Heap.get?_update_self
def hU:=@Nat.zero_le
def hV:=@Int.toNat_natCast
def ib:=@Nat.lt_succ_of_lt
def il:=@PySem.W.kia_one
def ip:=@Option.toList_some
def i4:=@Nat.lt_succ_self
def i5:=@List.length_drop
def js:=@PySem.Heap.get?_update_other
def ka:=@Array.getElem?_eq_none
def ke:=@List.length_singleton
def kf:=@List.getElem?_append_right
def kl:=@Int.le_refl
def km:=@List.append_assoc
def ky:=@List.getElem?_append_left
def lj:=@Bool.and_true
def lx:=@List.mem_append_left
def ma:=@PySem.Around.under_plainId
def me:=@List.getElem?_toArray
def mn:=@List.eq_nil_or_concat
def mx:=@List.getElem?_of_mem
def my:=@List.length_zip
def mB:=@PyProof.Rows.F.plain_set_update_loop
def mI:=@PySem.W.mg_of
def mN:=@List.pairwise_iff_getElem
def nz:=@List.pairwise_append
def oa:=@Nat.max_le
def oe:=@List.map_fst_zip
def og:=@PySem.mem_of_lookup
def ot:=@List.length_eq_zero_iff
def oy:=@Bool.eq_iff_iff
def oP:=@List.nodup_append
def pb:=@List.length_replicate
def pd:=@List.all_map
def pf:=@List.length_filter_le
def ph:=@List.getElem_mem
def pj:=@List.dropLast_concat
def pw:=@List.map_snd_zip
def px:=@List.getD_eq_getElem?_getD
def pz:=@PySem.F.plain_extend_loop
def pE:=@List.reverse_append
def qr:=@List.mem_filter
def rf:=@List.filter_map
def rg:=@List.filterMap_cons_none
def rh:=@List.filterMap_cons_some
def rp:=@PyProof.Rows.F.entry_set_update_loop
def sk:=@Option.isNone_some
def sx:=@List.forIn_toArray
def tf:=@List.take_sublist
def tj:=@Array.toList_push
def tm:=@PySem.W.kdx_alive
def tq:=@List.take_of_length_le
def tJ:=@PySem.Heap.size_update
def t5:=@List.mem_reverse
def ub:=@PySem.W.methodCall_KW
def ui:=@Array.getElem?_toList
def uj:=@List.getElem?_eq_none
def uk:=@List.take_append_drop
def va:=@List.concat_eq_append
def vb:=@PyProof.Rows.callWith_builtin1
def vi:=@PySem.F.slot_zip_next
def vk:=@List.replicate_succ'
def vw:=@List.reverse_reverse
def vy:=@PySem.W.plainGet_of
def vT:=@PySem.Heap.SameBut.update
def wb:=@List.mem_filterMap
def wq:=@PySem.W.callWith_K
def wx:=@PySem.Heap.IsSliceOf.new
def wy:=@Int.emod_lt_of_pos
def xc:=@PySem.Paired.length
def xi:=@List.length_eraseIdx_of_lt
def xl:=@List.map_drop
def xn:=@List.getElem_drop
def xt:=@List.foldl_append
def xv:=@Nat.le_of_eq
def yn:=@Option.isSome_iff_exists
def y0:=@Option.getD_none
def y7:=@PySem.Heap.IsList.push
def zr:=@Int.zero_add
def zt:=@List.map_reverse
def Ap:=@Nat.sub_self
def Bi:=@List.pairwise_singleton
def Bn:=@List.of_mem_zip
def Bz:=@Int.emod_nonneg
def BM:=@Array.size_map
def B1:=@PySem.wpAny_bind
def B2:=@PySem.wpAny_pure
def Dx:=@decide_eq_true
def Ee:=@if_neg
def Fh:=@if_pos
def Fm:=@or_false
def Fn:=@beq_self_eq_true
def Fs:=@PySem.wpAny_holding
def Fu:=@PySem.wpAny_mono
def FC:=@decide_eq_true_eq
def FK:=@PySem.wpAny_field
def FR:=@if_false
def FV:=@PySem.wpAny_Call_Name_kw
def FX:=@PySem.wpAny_nextOf_list_item
def Ha:=@decide_eq_false
def Hb:=@PySem.wpAny_setField_rec
def Hc:=@PySem.wpAny_truthy_bool
def Hd:=@PySem.wpAny_seqItems
def He:=@not_or
def Hk:=@PySem.wpAny_call_entry
def Hm:=@PySem.wpAny_standAt
def Hn:=@PySem.wpAny_callSpecial?_slot
def HI:=@PySem.codeAny_builtin
def Iy:=@PySem.wpAny_pyIter_list
def IH:=@PySem.wpAny_setState_of
def Jn:=@PySem.wpAny_askSetting
def Kb:=@PySem.wpAny_passesOwn
def Ki:=@PySem.builtinLookup_eq_fast
def Kj:=@PySem.wpAny_updateSeq
def Kk:=@PySem.wpAny_newObj_type
def Kt:=@PySem.codeAny_mono
def Kx:=@PySem.wpAny_comprehension_free
def L9:=@of_decide_eq_true
def Md:=@if_true
def Mo:=@PySem.plainId_quiet
def Nw:=@PySem.wpAny_attempt
def NA:=@PySem.sizeLine_eq
def NM:=@PySem.wpAny_specialOf
def Oy:=@PySem.typeLookup_type
def OK:=@PySem.wpAny_getItem_list_slice
def Pl:=@PySem.wpAny_rule
def Pm:=@PySem.strLen_append
def Pt:=@beq_iff_eq
def PH:=@PySem.wpAny_newTuple
def PQ:=@PySem.evalPart_none
def P2:=@PySem.wpAny_isInstance
def Qb:=@PySem.wpAny_pyIter_zip
def Qr:=@and_true
def QP:=@PySem.codeAny_of_tree
def QQ:=@PySem.wpAny_letGo
theorem QR(h:p:=by omega):p:=h
theorem Q1(h:p:=by decide +kernel):p:=h
theorem RF(h:p:=by decide):p:=h
theorem RR(h:p:=by simp):p:=h
theorem Sr(h:p:=by simp;omega):p:=h
theorem SF(h:p:=by with_unfolding_all rfl):p:=h
end
open PySem.W (Frag keepIn findIn fnOf emptyDict topFrame kitOne instObj boot_heap SharedT codeIn topRun isFn behindTheImports exmOne plainGet topStub nsIn lookIn methodObj hasDictIn deadEnd takerIn makesIn doneF kHook boot_drawn boot_o_10 boot_toks plainOver boot_o_0 boot_o_1 boot_o_4 boot_o_5 boot_o_6 boot_o_7 boot_o_8 boot_o_9 openGood handedIn BT blockOf segRun restOf topGo namesBound staticsOk boot_o_2 boot_o_3 piecesOf gensDone laidKept wideGood clsGoodW InitBack absHeap segRunT hideAll looseW typeIn recOk LeftO xlAt)
set_option Elab.async false
set_option linter.all false
set_option maxRecDepth 100000
set_option maxHeartbeats 4000000
namespace PySem.W
variable{p:Program}
abbrev SH (f:Scope->Str->Option Pos->Bool):TablesWhole.Alg Bool:=⟨f,λ_ _ _ _=>true,λ_=>true,true,false,λa b=>a&&b⟩
theorem IA {f:Scope->Str->Option Pos->Bool}{m:Module}(e:TablesWhole.wSs TablesWhole.gather m.scope ⟨m.scope,[],[],[],none⟩ m.scope m.body=[])(h:TablesWhole.wSs (SH f) m.scope ⟨m.scope,[],[],[],none⟩ m.scope m.body=true):TablesWhole.wModule (SH f) m=true:=by
 unfold TablesWhole.wModule;dsimp only;rw[e,h];rfl
theorem PC {b:List Stmt}{ok:Scope->Str->Bool}(e:TablesWhole.wSs TablesWhole.gather p.main.scope ⟨p.main.scope,[],[],[],none⟩ p.main.scope b=[])(h:TablesWhole.wSs (SH λsc n _=>ok sc n) p.main.scope ⟨p.main.scope,[],[],[],none⟩ p.main.scope b=true):namesMeet p b ok=true:=IA (m:={ p.main with body:=b }) e h
theorem PD (e:TablesWhole.wSs TablesWhole.gather p.main.scope ⟨p.main.scope,[],[],[],none⟩ p.main.scope p.main.body=[])(h:TablesWhole.wSs (SH λsc n _=>match sc.names.lookup n with
   | some .globalImplicit | some .globalExplicit=>p.boundNames.contains n||n==("__name__":Str)||n==("__debug__":Str)||(builtinNamed n&&!worldNames.contains n&&!n.opensWith "__")
   | _=>true) p.main.scope ⟨p.main.scope,[],[],[],none⟩ p.main.scope p.main.body=true):namesResolve p=true:=IA e h
theorem PJ (e:(["vars","dir","locals"]:List Str).filter (readsOut p p.main.body)=[])(a:sreFenced p.main=true)(b:((moduleNames p.main.body).isEmpty||lookedIntoSs (moduleNames p.main.body) p.main.body)=true)(c:namesResolve p=true)(d:p.boundNames.all (λn=>!worldNames.contains n)=true)
   (f:noRoadLSs { strict:=!(importedModules p.main.body).all cThrough.contains,foot:=none,bare:=[] } p.main.body=true) (g:namesMeet p p.main.body (λ_ n=>attrL n)=true):looksOpen p=true:=by
 unfold looksOpen;rw[e,a,b,c,d,f,g];rfl
end PySem.W
section
open PySem PySem.W
set_option maxHeartbeats 0
abbrev eO.pp:Program:=PySem.Challenge.pw_notefall_k51_read_wherever_notes_lie
theorem eO.h0:TablesWhole.wSs TablesWhole.gather eO.pp.main.scope ⟨eO.pp.main.scope,[],[],[],none⟩ eO.pp.main.scope eO.pp.main.body=[]:=by kernel_rfl
theorem eO.h1:(["vars","dir","locals"]:List Str).filter (readsOut eO.pp eO.pp.main.body)=[]:=by kernel_rfl
theorem eO.h2:sreFenced eO.pp.main=true:=by kernel_rfl
theorem eO.h3:((moduleNames eO.pp.main.body).isEmpty||lookedIntoSs (moduleNames eO.pp.main.body) eO.pp.main.body)=true:=by kernel_rfl
theorem eO.h4:TablesWhole.wSs (SH λsc n _=>match sc.names.lookup n with
   | some .globalImplicit | some .globalExplicit=>eO.pp.boundNames.contains n||n==("__name__":Str)||n==("__debug__":Str)||(builtinNamed n&&!worldNames.contains n&&!n.opensWith "__")
   | _=>true) eO.pp.main.scope ⟨eO.pp.main.scope,[],[],[],none⟩ eO.pp.main.scope eO.pp.main.body=true:=by kernel_rfl
theorem eO.h5:eO.pp.boundNames.all (λn=>!worldNames.contains n)=true:=by kernel_rfl
theorem eO.h6:noRoadLSs { strict:=!(importedModules eO.pp.main.body).all cThrough.contains,foot:=none,bare:=[] } eO.pp.main.body=true:=by kernel_rfl
theorem eO.h7:TablesWhole.wSs (SH λ_ n _=>attrL n) eO.pp.main.scope ⟨eO.pp.main.scope,[],[],[],none⟩ eO.pp.main.scope eO.pp.main.body=true:=by kernel_rfl
theorem eO.WX:looksOpen PySem.Challenge.pw_notefall_k51_read_wherever_notes_lie=true:=PJ eO.h1 eO.h2 eO.h3 (PD eO.h0 eO.h4) eO.h5 eO.h6 (PC eO.h0 eO.h7)
theorem eO.Tp:PySem.W.OpenLaw.wellSaid PySem.Challenge.rw_notefall_k51_read_wherever_notes_lie=true:=by
 delta PySem.W.OpenLaw.wellSaid PySem.W.OpenRow.wellSaid PySem.W.OpenRow.partSaid
 repeat' with_reducible refine PySem.W.look_both ?_ ?_
 . exact eO.WX
 all_goals kernel_rfl
end
namespace L2
open PySem PySem.Spec PyProof.Rows
def inClass (s:Stmt)(j:Nat):Stmt:=match s with
 | .ClassDef _ _ _ body _ _ _ _ _ _ _=>body.getD j (.Pass ⟨0,0,0,0⟩)
 | _=>.Pass ⟨0,0,0,0⟩
def cK (s:Stmt):Arguments:=match s with
 | .FunctionDef _ a _ _ _ _ _ _ _ _=>a
 | _=>{ posonlyargs:=[],args:=[],vararg:=none,kwonlyargs:=[],kw_defaults:=[],kwarg:=none,defaults:=[] }
def aj (s:Stmt):List Stmt:=match s with
 | .FunctionDef _ _ b _ _ _ _ _ _ _=>b
 | _=>[]
def aL (s:Stmt):Scope:=match s with
 | .FunctionDef _ _ _ _ _ _ sc _ _ _=>sc
 | _=>{ kind:=.function,names:=[],isGenerator:=false,isCoroutine:=false }
end L2
namespace eO
open PySem L2
variable{env:Env}{ann:Option Value}{p:Program}{w:World}
def top (i:Nat):Stmt:=PySem.Challenge.pw_notefall_k51_read_wherever_notes_lie.main.body.getD i (.Pass ⟨0,0,0,0⟩)
abbrev kh (P:Params)(x:Str):Int:=PyData.keyHash P x
noncomputable abbrev oC (a:Str)(b:Tok)(c:Str)(d:Tok)(e:Str)(f:Tok)(g h i j k:Int)(l:Addr)(m:Bool)(n:Int)(o:Addr)(p q r s:Value)(u v:Int)(x:Str)(y:Tok):Obj:=⟨.type "code",none,.fields #[.str a b,.str c d,.str e f,.int g 0,.int h 0,.int i 0,.int j 0,.int k 0,.ref l,.bool m,.int n 0,.ref o,p,q,r,s,.int u 0,.int v 0,.str x y],#[]⟩
noncomputable abbrev oT (x:Array Value):Obj:=⟨.type "tuple",none,.seq x 0,#[]⟩
noncomputable abbrev oF (a b:Str)(s:Stmt)(n:Nat)(d k m c:Value):Obj:=⟨.type "function",none,.func ⟨a,b,cK s,.stmts (aj s),aL s,n,[],d,k,.none,m,none,c,.none,0⟩,#[]⟩
noncomputable abbrev oG (a b:Str)(s:Stmt):Obj:=⟨.none,none,.func ⟨a,b,cK s,.stmts (aj s),aL s,0,[],.none,.none,.none,.none,none,.none,.none,0⟩,#[]⟩
noncomputable abbrev oN:Obj:=⟨.none,none,.fields #[],#[]⟩
noncomputable def Mn (s:Stmt):Str:=match s with
 | .FunctionDef n _ _ _ _ _ _ _ _ _=>n
 | _=>Str.empty
noncomputable def dLn (s:Stmt):Nat:=match s with
 | .FunctionDef _ _ _ _ _ _ _ _ _ p=>p.line
 | _=>0
noncomputable abbrev bZ (P:Params)(x:Str)(t:Tok)(v:Value):DictEntry:=⟨kh P x,.str x t,v⟩
noncomputable abbrev aT (P:Params)(x:Str)(t:Tok)(v:Addr):DictEntry:=⟨kh P x,.str x t,.ref v⟩
noncomputable abbrev ia (l:List DictEntry)(n:Nat):Obj:=⟨.type "dict",none,.dict l.toArray n,#[]⟩
noncomputable abbrev rE (x:Str)(t:Nat)(l:Int)(a:Nat):Obj:=oC x t x (t + 1) "/claim/cut.py" (t + 2) l 0 0 0 0 a false 181 (a + 1) .none .none .none .none (t + 3) l "/claim/cut.py" (t + 4)
noncomputable abbrev rF (a b:Addr)(v:Value):Obj:=⟨.type "frame",none,.plain,#[some (.ref a),some (.ref 3),some (.ref b),none,some v,none,some (.ref 0)]⟩
noncomputable abbrev tN (a:Addr):Obj:=⟨.type "super",none,.fields #[.ref a,.ref a,.ref a],#[]⟩
noncomputable abbrev iC (x:String)(v:Value):Obj:=⟨.type "builtin_function_or_method",none,.fields #[.builtin x,v],#[]⟩
noncomputable abbrev uG (x:Str)(t:Tok)(a:Addr)(b:String)(v:Value):Obj:=⟨.type "getset_descriptor",none,.fields #[.str x t,.ref a,.builtin b,v],#[]⟩
noncomputable abbrev tP (x:Str)(b m:List Value)(d:Addr)(u:List Value)(v:Option Value)(t1 t2:Tok)(nw:String):Obj:=⟨.type "type",none,.cls ⟨x,b,m,d,x,true,[],u,false,none,false⟩,#[v,none,some (.str x t1),some (.str x t2),some (.builtin nw),some (.bool true)]⟩
noncomputable abbrev Cp (l:List (Nat×Nat×Nat)):Obj:=⟨.none,none,.fields (l.flatMap λp=>[.int p.1 0,.int p.2.1 0,.ref p.2.2]).toArray,#[]⟩
noncomputable def Tq:Nat->List Str->List Value
 | _,[]=>[]
 | t,x::r=>.str x t::Tq (t + 1) r
noncomputable abbrev Tt (s:Stmt):Option (List Str×List Str):=localNames (cK s) (aL s) (.stmts (aj s))
noncomputable abbrev Tu (a t:Nat)(s:Stmt)(q:Str)(u v w:Value)(e:Nat):Obj:=oC (Mn s) t q (t + 1) "/claim/cut.py" (t + 2) (dLn s) (cK s).args.length 0 (cK s).kwonlyargs.length 3 a true 181 (a + 1) .none u v w e (dLn s) "/claim/cut.py" (e + 1)
noncomputable abbrev lG (a t:Nat)(s:Stmt)(q:Str):Obj:=match Tt s with
 | some (vs,_)=>Tu a t s q (.ref (a + 2)) (.ref (a + 3)) (.ref (a + 4)) (t + 3 + vs.length)
 | none=>Tu a t s q .none .none (.ref (a + 2)) (t + 3)
noncomputable abbrev eU (a t:Nat)(s:Stmt):Obj:=lG a t s (Mn s)
noncomputable abbrev xP (x:Str)(s:Stmt)(q:Str)(d w m:Value)(c:Addr):Obj:=oF x q s 3 d w m (.ref c)
noncomputable abbrev Tv (x:Str)(s:Stmt)(q:Str)(w m:Value)(c:Addr):Obj:=xP x s q .none w m c
noncomputable abbrev rG (x:Str)(s:Stmt)(q:Str)(m:Value)(c:Addr):Obj:=xP x s q .none .none m c
noncomputable abbrev IB (x:Str)(s:Stmt)(w m:Value)(c:Addr):Obj:=xP x s x .none w m c
noncomputable abbrev bE (x:Str)(s:Stmt)(m:Value)(c:Addr):Obj:=xP x s x .none .none m c
abbrev zc:Type:=Nat->Nat->List Obj×Nat×Nat
noncomputable def bh (o:Obj):zc:=λa t=>([o],a + 1,t)
noncomputable def fh (n:Nat):zc:=λa _=>([],a,n)
noncomputable def uH (s:Stmt)(q:Str)(d w m:Value):zc:=λa t=>match Tt s with
 | some (vs,_)=>([oT #[],oN,oT (Tq (t + 3) vs).toArray,oT #[],oG (Mn s) q s,lG a t s q,xP (Mn s) s q d w m (a + 5)],a + 7,t + 6 + vs.length)
 | none=>([oT #[],oN,oG (Mn s) q s,lG a t s q,xP (Mn s) s q d w m (a + 3)],a + 5,t + 6)
noncomputable def xQ (s:Stmt)(q:Str)(w m:Value):zc:=uH s q .none w m
noncomputable def dY (s:Stmt)(q:Str)(m:Value):zc:=uH s q .none .none m
noncomputable def IC (s:Stmt)(w m:Value):zc:=uH s (Mn s) .none w m
noncomputable def X3 (s:Stmt)(d w m:Value):zc:=uH s (Mn s) d w m
noncomputable def dN (s:Stmt)(m:Value):zc:=uH s (Mn s) .none .none m
noncomputable def Tw:List zc->Nat->Nat->List Obj
 | [],_,_=>[]
 | f::r,a,t=>(f a t).1++Tw r (f a t).2.1 (f a t).2.2
abbrev X4:Value:=.str "__main__" 164
abbrev X5:Value:=.str "notefall.errors" 194
abbrev lH:Value:=.str "notefall.wholes" 319
abbrev AB:Value:=.str "notefall.actions" 408
abbrev Cq:Value:=.str "notefall.notes" 449
abbrev jc:Value:=.str "notefall.shapes" 484
abbrev Tz:Value:=.str "notefall.leaves" 566
abbrev F5:Value:=.str "notefall.trays" 580
abbrev ic:Value:=.str "notefall.rooms" 606
abbrev qg:Value:=.str "notefall.rolls" 854
abbrev gx:Value:=.str "notefall.reads" 907
abbrev dm:Value:=.str "notefall.store" 1043
abbrev cZ:Value:=.str "notefall.images" 1274
abbrev bR:Value:=.str "law_notefall_k51_read_wherever_notes_lie" 1420
noncomputable abbrev x2 (P:Params):Obj:=⟨.none,none,(.dict (List.toArray ( [])) 0),#[]⟩
noncomputable abbrev x3 (P:Params):Obj:=ia (bZ P "__name__" 165 (.str "law_notefall_k51_read_wherever_notes_lie" 1420)::bZ P "__doc__" 166 .none::bZ P "__package__" 167 .none::bZ P "__loader__" 168 (.builtin "__main__.__loader__#opaque")::bZ P "__spec__" 169 .none::aT P "__annotations__" 170 6::aT P "__builtins__" 171 4::bZ P "__file__" 173 (.str "/claim/cut.py" 172)::bZ P "__cached__" 174 .none::aT P "_wall" 193 21::aT P "FallError" 213 31::aT P "NoKey" 229 44::aT P "NoStretch" 245 56::aT P "NoRule" 261 68::aT P "NoMark" 277 80::aT P "NoMany" 293 92::aT P "NoImage" 318 111::bZ P "END" 324 (.int 1000000000000 323)::bZ P "MOST_TRAY" 326 (.int 64 325)::bZ P "LEAST_FAN" 328 (.int 3 327)::bZ P "MOST_FAN" 330 (.int 16 329)::bZ P "MOST_ROWS" 332 (.int 64 331)::aT P "PLANS" 335 114::aT P "is_number" 342 121::aT P "is_whole" 351 128::aT P "is_whole_from" 359 135::aT P "is_key" 366 142::aT P "is_stretch" 374 149::aT P "check_key" 381 156::aT P "check_stretch" 389 163::aT P "is_plan" 396 170::aT P "is_rule" 407 177::aT P "GONE" 411 178::aT P "is_half" 419 185::aT P "is_action" 428 192::aT P "half_acts" 438 199::aT P "does" 448 206::aT P "is_note" 461 213::aT P "has_key" 469 220::aT P "have_common" 477 227::aT P "reached" 483 232::aT P "is_rising" 491 237::aT P "are_wholes" 497 242::aT P "are_rising_from" 503 247::aT P "is_version" 512 254::aT P "are_versions" 518 259::aT P "is_row" 525 266::aT P "are_rows" 531 271::aT P "are_notes" 537 276::aT P "has_word" 546 283::aT P "is_leaf_told" 553 290::aT P "is_inner_told" 565 297::aT P "value_of" 579 305::aT P "up_to" 587 310::aT P "touching" 593 315::aT P "seen" 605 323::aT P "Leaf" 638 340::aT P "Inner" 673 361::aT P "stretches" 683 372::aT P "child_place" 689 377::aT P "House" 846 485::aT P "new_house" 853 496::aT P "children_of" 861 501::aT P "all_rooms" 873 508::aT P "own_rows" 879 513::aT P "room_told" 885 518::aT P "roll_of" 891 523::aT P "room_made" 897 528::aT P "top_of" 906 535::aT P "check_mark" 916 542::aT P "check_many" 923 549::aT P "rooms_to" 933 556::aT P "versions_in" 943 563::aT P "told_value" 956 570::aT P "leaf_table" 962 575::aT P "do_to" 972 582::aT P "room_table" 987 589::aT P "pairs" 993 594::aT P "read_key" 1003 602::aT P "read_stretch" 1020 611::aT P "read_above" 1031 619::aT P "read_many" 1042 627::aT P "Store" 1260 793::aT P "store_from" 1273 804::aT P "is_frame" 1281 809::aT P "are_beneath" 1287 814::aT P "is_tray" 1293 819::aT P "are_within" 1299 824::aT P "is_row_beneath" 1305 829::aT P "Survey" 1396 882::aT P "image_fault" 1411 893::aT P "store_of" 1419 900::aT P "_law_cell_at" 1429 907::aT P "_law_well" 1436 914::aT P "_law_draw" 1446 921::aT P "_law_value" 1454 928::aT P "_law_number" 1461 935::aT P "_law_action" 1471 942::aT P "_law_acts" 1480 949::aT P "_law_rule" 1491 956::aT P "_law_rows" 1506 963::aT P "_law_tray" 1523 970::aT P "_law_room" 1529 975::aT P "_law_all" 1538 982::aT P "_law_told" 1544 987::aT P "_law_world" 1550 992::aT P "_law_view" 1556 997::aT P "_law_views" 1562 1002::aT P "_law_ats" 1569 1009::aT P "_law_alike" 1577 1016::aT P "_law_right" 1592 1023::aT P "law" 1600 1030::[]) 112
noncomputable abbrev x30 (P:Params):Obj:=ia (bZ P "__module__" 203 (.str "notefall.errors" 194)::bZ P "__firstlineno__" 207 (.int 5 206)::aT P "__static_attributes__" 208 29::aT P "__weakref__" 210 32::bZ P "__doc__" 211 .none::[]) 3
noncomputable abbrev x31 (P:Params):Obj:=tP "FallError" [(.type "ValueError")] [(.ref 31),(.type "ValueError"),(.type "Exception"),(.type "BaseException"),(.type "object")] 30 [(.ref 44),(.ref 56),(.ref 68),(.ref 80),(.ref 92),(.ref 111)] (some (.ref 22)) 196 204 "ValueError.__new__"
noncomputable abbrev x32 (P:Params):Obj:=uG "__weakref__" 209 31 "ExceptionGroup.__weakref__" .none
noncomputable abbrev x43 (P:Params):Obj:=ia (bZ P "__module__" 221 (.str "notefall.errors" 194)::bZ P "__firstlineno__" 225 (.int 7 224)::aT P "__static_attributes__" 226 42::bZ P "__doc__" 227 .none::[]) 2
noncomputable abbrev x44 (P:Params):Obj:=tP "NoKey" [(.ref 31)] [(.ref 44),(.ref 31),(.type "ValueError"),(.type "Exception"),(.type "BaseException"),(.type "object")] 43 [] (some (.ref 35)) 214 222 "ValueError.__new__"
noncomputable abbrev x55 (P:Params):Obj:=ia (bZ P "__module__" 237 (.str "notefall.errors" 194)::bZ P "__firstlineno__" 241 (.int 9 240)::aT P "__static_attributes__" 242 54::bZ P "__doc__" 243 .none::[]) 2
noncomputable abbrev x56 (P:Params):Obj:=tP "NoStretch" [(.ref 31)] [(.ref 56),(.ref 31),(.type "ValueError"),(.type "Exception"),(.type "BaseException"),(.type "object")] 55 [] (some (.ref 47)) 230 238 "ValueError.__new__"
noncomputable abbrev x67 (P:Params):Obj:=ia (bZ P "__module__" 253 (.str "notefall.errors" 194)::bZ P "__firstlineno__" 257 (.int 11 256)::aT P "__static_attributes__" 258 66::bZ P "__doc__" 259 .none::[]) 2
noncomputable abbrev x68 (P:Params):Obj:=tP "NoRule" [(.ref 31)] [(.ref 68),(.ref 31),(.type "ValueError"),(.type "Exception"),(.type "BaseException"),(.type "object")] 67 [] (some (.ref 59)) 246 254 "ValueError.__new__"
noncomputable abbrev x79 (P:Params):Obj:=ia (bZ P "__module__" 269 (.str "notefall.errors" 194)::bZ P "__firstlineno__" 273 (.int 13 272)::aT P "__static_attributes__" 274 78::bZ P "__doc__" 275 .none::[]) 2
noncomputable abbrev x80 (P:Params):Obj:=tP "NoMark" [(.ref 31)] [(.ref 80),(.ref 31),(.type "ValueError"),(.type "Exception"),(.type "BaseException"),(.type "object")] 79 [] (some (.ref 71)) 262 270 "ValueError.__new__"
noncomputable abbrev x91 (P:Params):Obj:=ia (bZ P "__module__" 285 (.str "notefall.errors" 194)::bZ P "__firstlineno__" 289 (.int 15 288)::aT P "__static_attributes__" 290 90::bZ P "__doc__" 291 .none::[]) 2
noncomputable abbrev x92 (P:Params):Obj:=tP "NoMany" [(.ref 31)] [(.ref 92),(.ref 31),(.type "ValueError"),(.type "Exception"),(.type "BaseException"),(.type "object")] 91 [] (some (.ref 83)) 278 286 "ValueError.__new__"
noncomputable abbrev TF (P:Params):Obj:=ia (bZ P "__module__" 301 (.str "notefall.errors" 194)::bZ P "__firstlineno__" 305 (.int 17 304)::aT P "__init__" 313 108::aT P "__static_attributes__" 315 109::bZ P "__doc__" 316 .none::[]) 2
noncomputable abbrev TH (P:Params):Obj:=tP "NoImage" [(.ref 31)] [(.ref 111),(.ref 31),(.type "ValueError"),(.type "Exception"),(.type "BaseException"),(.type "object")] 110 [] (some (.ref 95)) 294 302 "ValueError.__new__"
noncomputable abbrev TJ (P:Params):Obj:=oT #[(.str "fullest" 333),(.str "eldest" 334)]
noncomputable abbrev TL (P:Params):Obj:=ia (bZ P "__module__" 615 (.str "notefall.rooms" 606)::bZ P "__firstlineno__" 619 (.int 143 618)::aT P "__init__" 628 337::aT P "__static_attributes__" 631 338::aT P "__dict__" 633 341::aT P "__weakref__" 635 342::bZ P "__doc__" 636 .none::[]) 4
noncomputable abbrev TM (P:Params):Obj:=tP "Leaf" [(.type "object")] [(.ref 340),(.type "object")] 339 [] none 608 616 "object.__new__"
noncomputable abbrev TN (P:Params):Obj:=uG "__dict__" 632 340 "function.__dict__" (.builtin "function.__dict__#set")
noncomputable abbrev TQ (P:Params):Obj:=uG "__weakref__" 634 340 "ExceptionGroup.__weakref__" .none
noncomputable abbrev TR (P:Params):Obj:=ia (bZ P "__module__" 646 (.str "notefall.rooms" 606)::bZ P "__firstlineno__" 650 (.int 148 649)::aT P "__init__" 661 358::aT P "__static_attributes__" 666 359::aT P "__dict__" 668 362::aT P "__weakref__" 670 363::bZ P "__doc__" 671 .none::[]) 4
noncomputable abbrev TU (P:Params):Obj:=tP "Inner" [(.type "object")] [(.ref 361),(.type "object")] 360 [] none 639 647 "object.__new__"
noncomputable abbrev TV (P:Params):Obj:=uG "__dict__" 667 361 "function.__dict__" (.builtin "function.__dict__#set")
noncomputable abbrev TX (P:Params):Obj:=uG "__weakref__" 669 361 "ExceptionGroup.__weakref__" .none
noncomputable abbrev TY (P:Params):Obj:=ia (bZ P "__module__" 697 (.str "notefall.rooms" 606)::bZ P "__firstlineno__" 701 (.int 160 700)::aT P "__init__" 712 391::aT P "next_number" 719 398::aT P "lay" 727 405::aT P "take_in" 738 412::aT P "drain" 748 419::aT P "pour_into" 759 426::aT P "clear_out" 769 433::aT P "is_too_great" 777 440::aT P "mend" 788 447::aT P "part_child" 799 454::aT P "leaf_parts" 807 461::aT P "inner_parts" 817 468::aT P "part_numbers" 826 475::aT P "mend_top" 833 482::aT P "__static_attributes__" 839 483::aT P "__dict__" 841 486::aT P "__weakref__" 843 487::bZ P "__doc__" 844 .none::[]) 4
noncomputable abbrev TZ (P:Params):Obj:=tP "House" [(.type "object")] [(.ref 485),(.type "object")] 484 [] none 690 698 "object.__new__"
noncomputable abbrev T3 (P:Params):Obj:=uG "__dict__" 840 485 "function.__dict__" (.builtin "function.__dict__#set")
noncomputable abbrev T4 (P:Params):Obj:=uG "__weakref__" 842 485 "ExceptionGroup.__weakref__" .none
noncomputable abbrev T6 (P:Params):Obj:=ia (bZ P "at" 1005 .none::bZ P "most" 1006 .none::bZ P "back" 1007 (.bool false)::[]) 3
noncomputable abbrev T8 (P:Params):Obj:=ia (bZ P "at" 1106 .none::bZ P "most" 1107 .none::bZ P "back" 1108 (.bool false)::[]) 3
noncomputable abbrev Ua (P:Params):Obj:=ia (bZ P "__module__" 1052 (.str "notefall.store" 1043)::bZ P "__firstlineno__" 1056 (.int 304 1055)::aT P "__init__" 1064 641::aT P "check_free" 1071 648::aT P "ready_deed" 1079 655::aT P "do" 1087 662::aT P "marks" 1094 669::aT P "read" 1104 677::aT P "stretch" 1120 686::aT P "__len__" 1127 693::aT P "above" 1137 701::aT P "below" 1147 709::aT P "many" 1158 717::aT P "total" 1169 725::aT P "unlike" 1178 732::aT P "way" 1188 740::aT P "pour" 1197 747::aT P "press" 1206 754::aT P "squeeze" 1213 761::aT P "each" 1227 769::aT P "steps" 1234 776::aT P "twin" 1241 783::aT P "image" 1248 790::aT P "__static_attributes__" 1253 791::aT P "__dict__" 1255 794::aT P "__weakref__" 1257 795::bZ P "__doc__" 1258 .none::[]) 4
noncomputable abbrev Ub (P:Params):Obj:=tP "Store" [(.type "object")] [(.ref 793),(.type "object")] 792 [] none 1045 1053 "object.__new__"
noncomputable abbrev Uc (P:Params):Obj:=uG "__dict__" 1254 793 "function.__dict__" (.builtin "function.__dict__#set")
noncomputable abbrev Ud (P:Params):Obj:=uG "__weakref__" 1256 793 "ExceptionGroup.__weakref__" .none
noncomputable abbrev Ue (P:Params):Obj:=ia (bZ P "__module__" 1313 (.str "notefall.images" 1274)::bZ P "__firstlineno__" 1317 (.int 404 1316)::aT P "__init__" 1327 843::aT P "takes" 1333 848::aT P "may_have" 1342 855::aT P "is_leaf_sound" 1348 860::aT P "has_floors" 1356 867::aT P "is_inner_sound" 1376 874::aT P "await_children" 1382 879::aT P "__static_attributes__" 1389 880::aT P "__dict__" 1391 883::aT P "__weakref__" 1393 884::bZ P "__doc__" 1394 .none::[]) 4
noncomputable abbrev Ug (P:Params):Obj:=tP "Survey" [(.type "object")] [(.ref 882),(.type "object")] 881 [] none 1306 1314 "object.__new__"
noncomputable abbrev Uh (P:Params):Obj:=uG "__dict__" 1390 882 "function.__dict__" (.builtin "function.__dict__#set")
noncomputable abbrev Ui (P:Params):Obj:=uG "__weakref__" 1392 882 "ExceptionGroup.__weakref__" .none
noncomputable def hK (P:Params):Frag:=(nat_lit 2,x2 P)::(nat_lit 3,x3 P)::(nat_lit 30,x30 P)::(nat_lit 31,x31 P)::(nat_lit 32,x32 P)::(nat_lit 43,x43 P)::(nat_lit 44,x44 P)::(nat_lit 55,x55 P)::(nat_lit 56,x56 P)::(nat_lit 67,x67 P)::(nat_lit 68,x68 P)::(nat_lit 79,x79 P)::(nat_lit 80,x80 P)::(nat_lit 91,x91 P)::(nat_lit 92,x92 P)::(nat_lit 110,TF P)::(nat_lit 111,TH P)::(nat_lit 114,TJ P)::(nat_lit 120,eU 115 336 (top 16))::(nat_lit 121,bE "is_number" (top 16) lH 120)::(nat_lit 127,eU 122 343 (top 17))::(nat_lit 128,bE "is_whole" (top 17) lH 127)::(nat_lit 134,eU 129 352 (top 18))::(nat_lit 135,bE "is_whole_from" (top 18) lH 134)::(nat_lit 141,eU 136 360 (top 19))::(nat_lit 142,bE "is_key" (top 19) lH 141)::(nat_lit 148,eU 143 367 (top 20))::(nat_lit 149,bE "is_stretch" (top 20) lH 148)::(nat_lit 155,eU 150 375 (top 21))::(nat_lit 156,bE "check_key" (top 21) lH 155)::(nat_lit 169,eU 164 390 (top 23))::(nat_lit 170,bE "is_plan" (top 23) lH 169)::(nat_lit 176,eU 171 397 (top 24))::(nat_lit 177,bE "is_rule" (top 24) lH 176)::(nat_lit 178,oT #[(.str "gone" 410)])::(nat_lit 184,eU 179 412 (top 27))::(nat_lit 185,bE "is_half" (top 27) AB 184)::(nat_lit 191,eU 186 420 (top 28))::(nat_lit 192,bE "is_action" (top 28) AB 191)::(nat_lit 198,eU 193 429 (top 29))::(nat_lit 199,bE "half_acts" (top 29) AB 198)::(nat_lit 205,eU 200 439 (top 30))::(nat_lit 206,bE "does" (top 30) AB 205)::(nat_lit 212,eU 207 451 (top 32))::(nat_lit 213,bE "is_note" (top 32) Cq 212)::(nat_lit 219,eU 214 462 (top 33))::(nat_lit 220,bE "has_key" (top 33) Cq 219)::(nat_lit 226,eU 221 470 (top 34))::(nat_lit 227,bE "have_common" (top 34) Cq 226)::(nat_lit 236,eU 233 486 (top 37))::(nat_lit 237,bE "is_rising" (top 37) jc 236)::(nat_lit 241,eU 238 492 (top 38))::(nat_lit 242,bE "are_wholes" (top 38) jc 241)::(nat_lit 246,eU 243 498 (top 39))::(nat_lit 247,bE "are_rising_from" (top 39) jc 246)::(nat_lit 253,eU 248 504 (top 40))::(nat_lit 254,bE "is_version" (top 40) jc 253)::(nat_lit 258,eU 255 513 (top 41))::(nat_lit 259,bE "are_versions" (top 41) jc 258)::(nat_lit 265,eU 260 519 (top 42))::(nat_lit 266,bE "is_row" (top 42) jc 265)::(nat_lit 270,eU 267 526 (top 43))::(nat_lit 271,bE "are_rows" (top 43) jc 270)::(nat_lit 275,eU 272 532 (top 44))::(nat_lit 276,bE "are_notes" (top 44) jc 275)::(nat_lit 282,eU 277 538 (top 45))::(nat_lit 283,bE "has_word" (top 45) jc 282)::(nat_lit 289,eU 284 547 (top 46))::(nat_lit 290,bE "is_leaf_told" (top 46) jc 289)::(nat_lit 296,eU 291 554 (top 47))::(nat_lit 297,bE "is_inner_told" (top 47) jc 296)::(nat_lit 298,ia (bZ P "at" 568 .none::[]) 1)::(nat_lit 304,eU 299 569 (top 49))::(nat_lit 305,IB "value_of" (top 49) (.ref 298) Tz 304)::(nat_lit 309,eU 306 582 (top 51))::(nat_lit 310,bE "up_to" (top 51) F5 309)::(nat_lit 314,eU 311 588 (top 52))::(nat_lit 315,bE "touching" (top 52) F5 314)::(nat_lit 316,ia (bZ P "at" 594 .none::[]) 1)::(nat_lit 322,eU 317 595 (top 53))::(nat_lit 323,IB "seen" (top 53) (.ref 316) F5 322)::(nat_lit 336,lG 331 620 (inClass (top 55) 0) "Leaf.__init__")::(nat_lit 337,rG "__init__" (inClass (top 55) 0) "Leaf.__init__" ic 336)::(nat_lit 339,TL P)::(nat_lit 340,TM P)::(nat_lit 341,TN P)::(nat_lit 342,TQ P)::(nat_lit 357,lG 352 651 (inClass (top 56) 0) "Inner.__init__")::(nat_lit 358,rG "__init__" (inClass (top 56) 0) "Inner.__init__" ic 357)::(nat_lit 360,TR P)::(nat_lit 361,TU P)::(nat_lit 362,TV P)::(nat_lit 363,TX P)::(nat_lit 371,eU 366 674 (top 57))::(nat_lit 372,bE "stretches" (top 57) ic 371)::(nat_lit 376,eU 373 684 (top 58))::(nat_lit 377,bE "child_place" (top 58) ic 376)::(nat_lit 390,lG 385 702 (inClass (top 59) 0) "House.__init__")::(nat_lit 391,rG "__init__" (inClass (top 59) 0) "House.__init__" ic 390)::(nat_lit 484,TY P)::(nat_lit 485,TZ P)::(nat_lit 486,T3 P)::(nat_lit 487,T4 P)::(nat_lit 495,eU 490 847 (top 60))::(nat_lit 496,bE "new_house" (top 60) ic 495)::(nat_lit 500,eU 497 856 (top 62))::(nat_lit 501,bE "children_of" (top 62) qg 500)::(nat_lit 507,eU 502 862 (top 63))::(nat_lit 508,bE "all_rooms" (top 63) qg 507)::(nat_lit 512,eU 509 874 (top 64))::(nat_lit 513,bE "own_rows" (top 64) qg 512)::(nat_lit 517,eU 514 880 (top 65))::(nat_lit 518,bE "room_told" (top 65) qg 517)::(nat_lit 522,eU 519 886 (top 66))::(nat_lit 523,bE "roll_of" (top 66) qg 522)::(nat_lit 527,eU 524 892 (top 67))::(nat_lit 528,bE "room_made" (top 67) qg 527)::(nat_lit 534,eU 529 898 (top 68))::(nat_lit 535,bE "top_of" (top 68) qg 534)::(nat_lit 541,eU 536 909 (top 70))::(nat_lit 542,bE "check_mark" (top 70) gx 541)::(nat_lit 555,eU 550 924 (top 72))::(nat_lit 556,bE "rooms_to" (top 72) gx 555)::(nat_lit 562,eU 557 934 (top 73))::(nat_lit 563,bE "versions_in" (top 73) gx 562)::(nat_lit 569,eU 564 944 (top 74))::(nat_lit 570,bE "told_value" (top 74) gx 569)::(nat_lit 595,ia (bZ P "at" 994 .none::[]) 1)::(nat_lit 601,eU 596 995 (top 79))::(nat_lit 602,IB "read_key" (top 79) (.ref 595) gx 601)::(nat_lit 604,T6 P)::(nat_lit 612,ia (bZ P "at" 1021 .none::[]) 1)::(nat_lit 620,ia (bZ P "at" 1032 .none::[]) 1)::(nat_lit 640,lG 635 1057 (inClass (top 84) 0) "Store.__init__")::(nat_lit 641,rG "__init__" (inClass (top 84) 0) "Store.__init__" dm 640)::(nat_lit 668,lG 663 1088 (inClass (top 84) 4) "Store.marks")::(nat_lit 669,rG "marks" (inClass (top 84) 4) "Store.marks" dm 668)::(nat_lit 670,ia (bZ P "at" 1095 .none::[]) 1)::(nat_lit 676,lG 671 1096 (inClass (top 84) 5) "Store.read")::(nat_lit 677,Tv "read" (inClass (top 84) 5) "Store.read" (.ref 670) dm 676)::(nat_lit 679,T8 P)::(nat_lit 694,ia (bZ P "at" 1128 .none::[]) 1)::(nat_lit 702,ia (bZ P "at" 1138 .none::[]) 1)::(nat_lit 710,ia (bZ P "at" 1148 .none::[]) 1)::(nat_lit 718,ia (bZ P "at" 1159 .none::[]) 1)::(nat_lit 733,ia (bZ P "at" 1179 .none::[]) 1)::(nat_lit 789,lG 784 1242 (inClass (top 84) 20) "Store.image")::(nat_lit 790,rG "image" (inClass (top 84) 20) "Store.image" dm 789)::(nat_lit 792,Ua P)::(nat_lit 793,Ub P)::(nat_lit 794,Uc P)::(nat_lit 795,Ud P)::(nat_lit 803,eU 798 1261 (top 85))::(nat_lit 804,bE "store_from" (top 85) dm 803)::(nat_lit 808,eU 805 1276 (top 87))::(nat_lit 809,bE "is_frame" (top 87) cZ 808)::(nat_lit 813,eU 810 1282 (top 88))::(nat_lit 814,bE "are_beneath" (top 88) cZ 813)::(nat_lit 818,eU 815 1288 (top 89))::(nat_lit 819,bE "is_tray" (top 89) cZ 818)::(nat_lit 823,eU 820 1294 (top 90))::(nat_lit 824,bE "are_within" (top 90) cZ 823)::(nat_lit 828,eU 825 1300 (top 91))::(nat_lit 829,bE "is_row_beneath" (top 91) cZ 828)::(nat_lit 842,lG 837 1318 (inClass (top 92) 0) "Survey.__init__")::(nat_lit 843,rG "__init__" (inClass (top 92) 0) "Survey.__init__" cZ 842)::(nat_lit 847,lG 844 1328 (inClass (top 92) 1) "Survey.takes")::(nat_lit 848,rG "takes" (inClass (top 92) 1) "Survey.takes" cZ 847)::(nat_lit 854,lG 849 1334 (inClass (top 92) 2) "Survey.may_have")::(nat_lit 855,rG "may_have" (inClass (top 92) 2) "Survey.may_have" cZ 854)::(nat_lit 859,lG 856 1343 (inClass (top 92) 3) "Survey.is_leaf_sound")::(nat_lit 860,rG "is_leaf_sound" (inClass (top 92) 3) "Survey.is_leaf_sound" cZ 859)::(nat_lit 866,lG 861 1349 (inClass (top 92) 4) "Survey.has_floors")::(nat_lit 867,rG "has_floors" (inClass (top 92) 4) "Survey.has_floors" cZ 866)::(nat_lit 873,lG 868 1357 (inClass (top 92) 5) "Survey.is_inner_sound")::(nat_lit 874,rG "is_inner_sound" (inClass (top 92) 5) "Survey.is_inner_sound" cZ 873)::(nat_lit 878,lG 875 1377 (inClass (top 92) 6) "Survey.await_children")::(nat_lit 879,rG "await_children" (inClass (top 92) 6) "Survey.await_children" cZ 878)::(nat_lit 881,Ue P)::(nat_lit 882,Ug P)::(nat_lit 883,Uh P)::(nat_lit 884,Ui P)::(nat_lit 892,eU 887 1397 (top 93))::(nat_lit 893,bE "image_fault" (top 93) cZ 892)::(nat_lit 899,eU 894 1412 (top 94))::(nat_lit 900,bE "store_of" (top 94) cZ 899)::(nat_lit 906,eU 901 1422 (top 96))::(nat_lit 907,bE "_law_cell_at" (top 96) bR 906)::(nat_lit 913,eU 908 1430 (top 97))::(nat_lit 914,bE "_law_well" (top 97) bR 913)::(nat_lit 920,eU 915 1437 (top 98))::(nat_lit 921,bE "_law_draw" (top 98) bR 920)::(nat_lit 927,eU 922 1447 (top 99))::(nat_lit 928,bE "_law_value" (top 99) bR 927)::(nat_lit 934,eU 929 1455 (top 100))::(nat_lit 935,bE "_law_number" (top 100) bR 934)::(nat_lit 941,eU 936 1462 (top 101))::(nat_lit 942,bE "_law_action" (top 101) bR 941)::(nat_lit 948,eU 943 1472 (top 102))::(nat_lit 949,bE "_law_acts" (top 102) bR 948)::(nat_lit 955,eU 950 1481 (top 103))::(nat_lit 956,bE "_law_rule" (top 103) bR 955)::(nat_lit 962,eU 957 1492 (top 104))::(nat_lit 963,bE "_law_rows" (top 104) bR 962)::(nat_lit 969,eU 964 1507 (top 105))::(nat_lit 970,bE "_law_tray" (top 105) bR 969)::(nat_lit 974,eU 971 1524 (top 106))::(nat_lit 975,bE "_law_room" (top 106) bR 974)::(nat_lit 981,eU 976 1530 (top 107))::(nat_lit 982,bE "_law_all" (top 107) bR 981)::(nat_lit 986,eU 983 1539 (top 108))::(nat_lit 987,bE "_law_told" (top 108) bR 986)::(nat_lit 991,eU 988 1545 (top 109))::(nat_lit 992,bE "_law_world" (top 109) bR 991)::(nat_lit 996,eU 993 1551 (top 110))::(nat_lit 997,bE "_law_view" (top 110) bR 996)::(nat_lit 1008,eU 1003 1563 (top 112))::(nat_lit 1009,bE "_law_ats" (top 112) bR 1008)::(nat_lit 1015,eU 1010 1570 (top 113))::(nat_lit 1016,bE "_law_alike" (top 113) bR 1015)::(nat_lit 1022,eU 1017 1578 (top 114))::(nat_lit 1023,bE "_law_right" (top 114) bR 1022)::(nat_lit 1029,eU 1024 1593 (top 115))::(nat_lit 1030,bE "law" (top 115) bR 1029)::[]
noncomputable def X6 (P:Params):List Obj:=Tw (bh (boot_o_0 P)::bh (boot_o_1 P)::bh (x2 P)::bh (x3 P)::bh (boot_o_4 P)::bh (boot_o_5 P)::bh (boot_o_6 P)::bh (boot_o_7 P)::bh (boot_o_8 P)::bh (boot_o_9 P)::bh (boot_o_10 P)::bh (oT #[])::bh (Cp ((1,0,20)::(5,0,27)::(7,0,40)::(9,0,52)::(11,0,64)::(13,0,76)::(15,0,88)::(17,0,100)::(28,0,120)::(30,0,127)::(32,0,134)::(34,0,141)::(36,0,148)::(38,0,155)::(41,0,162)::(44,0,169)::(46,0,176)::(55,0,184)::(61,0,191)::(66,0,198)::(71,0,205)::(75,0,212)::(82,0,219)::(84,0,226)::(86,0,231)::(92,0,236)::(94,0,241)::(96,0,246)::(98,0,253)::(103,0,258)::(107,0,265)::(109,0,270)::(113,0,275)::(115,0,282)::(119,0,289)::(121,0,296)::(127,0,304)::(134,0,309)::(136,0,314)::(138,0,322)::(143,0,329)::(148,0,350)::(155,0,371)::(158,0,376)::(160,0,383)::(207,0,495)::(210,0,500)::(212,0,507)::(221,0,512)::(223,0,517)::(228,0,522)::(230,0,527)::(236,0,534)::(242,0,541)::(245,0,548)::(248,0,555)::(254,0,562)::(259,0,569)::(265,0,574)::(267,0,581)::(271,0,588)::(281,0,593)::(284,0,601)::(288,0,610)::(296,0,618)::(301,0,626)::(304,0,633)::(380,0,803)::(387,0,808)::(394,0,813)::(396,0,818)::(398,0,823)::(400,0,828)::(404,0,835)::(457,0,892)::(466,0,899)::(472,0,906)::(476,0,913)::(478,0,920)::(487,0,927)::(494,0,934)::(498,0,941)::(502,0,948)::(509,0,955)::(515,0,962)::(526,0,969)::(537,0,974)::(551,0,981)::(556,0,986)::(561,0,991)::(577,0,996)::(590,0,1001)::(593,0,1008)::(595,0,1015)::(599,0,1022)::(619,0,1029)::[]))::bh (rE "<module>" 182 1 11)::bh (rF 13 3 (.str "__main__" 164))::fh 187::dN (top 0) X4::bh (oT #[(.type "ValueError")])::bh (iC "type.__prepare__" (.type "type"))::bh (ia (bZ P "__module__" 203 (.str "notefall.errors" 194)::bZ P "__qualname__" 205 (.str "FallError" 204)::bZ P "__firstlineno__" 207 (.int 5 206)::aT P "__static_attributes__" 208 29::[]) 4)::bh (oT #[])::bh (oN)::bh (rE "FallError" 198 5 25)::bh (rF 27 24 (.str "notefall.errors" 194))::bh (oT #[])::bh (x30 P)::bh (x31 P)::bh (x32 P)::bh (tN 31)::bh (iC "object.__init_subclass__" (.ref 31))::bh (oT #[(.ref 31)])::bh (iC "type.__prepare__" (.type "type"))::bh (ia (bZ P "__module__" 221 (.str "notefall.errors" 194)::bZ P "__qualname__" 223 (.str "NoKey" 222)::bZ P "__firstlineno__" 225 (.int 7 224)::aT P "__static_attributes__" 226 42::[]) 4)::bh (oT #[])::bh (oN)::bh (rE "NoKey" 216 7 38)::bh (rF 40 37 (.str "notefall.errors" 194))::bh (oT #[])::bh (x43 P)::bh (x44 P)::bh (tN 44)::bh (iC "object.__init_subclass__" (.ref 44))::bh (oT #[(.ref 31)])::bh (iC "type.__prepare__" (.type "type"))::bh (ia (bZ P "__module__" 237 (.str "notefall.errors" 194)::bZ P "__qualname__" 239 (.str "NoStretch" 238)::bZ P "__firstlineno__" 241 (.int 9 240)::aT P "__static_attributes__" 242 54::[]) 4)::bh (oT #[])::bh (oN)::bh (rE "NoStretch" 232 9 50)::bh (rF 52 49 (.str "notefall.errors" 194))::bh (oT #[])::bh (x55 P)::bh (x56 P)::bh (tN 56)::bh (iC "object.__init_subclass__" (.ref 56))::bh (oT #[(.ref 31)])::bh (iC "type.__prepare__" (.type "type"))::bh (ia (bZ P "__module__" 253 (.str "notefall.errors" 194)::bZ P "__qualname__" 255 (.str "NoRule" 254)::bZ P "__firstlineno__" 257 (.int 11 256)::aT P "__static_attributes__" 258 66::[]) 4)::bh (oT #[])::bh (oN)::bh (rE "NoRule" 248 11 62)::bh (rF 64 61 (.str "notefall.errors" 194))::bh (oT #[])::bh (x67 P)::bh (x68 P)::bh (tN 68)::bh (iC "object.__init_subclass__" (.ref 68))::bh (oT #[(.ref 31)])::bh (iC "type.__prepare__" (.type "type"))::bh (ia (bZ P "__module__" 269 (.str "notefall.errors" 194)::bZ P "__qualname__" 271 (.str "NoMark" 270)::bZ P "__firstlineno__" 273 (.int 13 272)::aT P "__static_attributes__" 274 78::[]) 4)::bh (oT #[])::bh (oN)::bh (rE "NoMark" 264 13 74)::bh (rF 76 73 (.str "notefall.errors" 194))::bh (oT #[])::bh (x79 P)::bh (x80 P)::bh (tN 80)::bh (iC "object.__init_subclass__" (.ref 80))::bh (oT #[(.ref 31)])::bh (iC "type.__prepare__" (.type "type"))::bh (ia (bZ P "__module__" 285 (.str "notefall.errors" 194)::bZ P "__qualname__" 287 (.str "NoMany" 286)::bZ P "__firstlineno__" 289 (.int 15 288)::aT P "__static_attributes__" 290 90::[]) 4)::bh (oT #[])::bh (oN)::bh (rE "NoMany" 280 15 86)::bh (rF 88 85 (.str "notefall.errors" 194))::bh (oT #[])::bh (x91 P)::bh (x92 P)::bh (tN 92)::bh (iC "object.__init_subclass__" (.ref 92))::bh (oT #[(.ref 31)])::bh (iC "type.__prepare__" (.type "type"))::bh (ia (bZ P "__module__" 301 (.str "notefall.errors" 194)::bZ P "__qualname__" 303 (.str "NoImage" 302)::bZ P "__firstlineno__" 305 (.int 17 304)::aT P "__init__" 313 108::aT P "__static_attributes__" 315 109::[]) 5)::bh (oT #[])::bh (Cp ((19,4,107)::[]))::bh (rE "NoImage" 296 17 98)::bh (rF 100 97 (.str "notefall.errors" 194))::fh 306::dY (inClass (top 8) 0) "NoImage.__init__" X5::bh (oT #[(.str "room" 314)])::bh (TF P)::bh (TH P)::bh (tN 111)::bh (iC "object.__init_subclass__" (.ref 111))::bh (TJ P)::fh 336::dN (top 16) lH::dN (top 17) lH::dN (top 18) lH::dN (top 19) lH::dN (top 20) lH::dN (top 21) lH::dN (top 22) lH::dN (top 23) lH::dN (top 24) lH::bh (oT #[(.str "gone" 410)])::fh 412::dN (top 27) AB::dN (top 28) AB::dN (top 29) AB::dN (top 30) AB::fh 451::dN (top 32) Cq::dN (top 33) Cq::dN (top 34) Cq::dN (top 35) Cq::fh 486::dN (top 37) jc::dN (top 38) jc::dN (top 39) jc::dN (top 40) jc::dN (top 41) jc::dN (top 42) jc::dN (top 43) jc::dN (top 44) jc::dN (top 45) jc::dN (top 46) jc::dN (top 47) jc::bh (ia (bZ P "at" 568 .none::[]) 1)::fh 569::IC (top 49) (.ref 298) Tz::fh 582::dN (top 51) F5::dN (top 52) F5::bh (ia (bZ P "at" 594 .none::[]) 1)::fh 595::IC (top 53) (.ref 316) F5::bh (oT #[])::bh (iC "type.__prepare__" (.type "type"))::bh (ia (bZ P "__module__" 615 (.str "notefall.rooms" 606)::bZ P "__qualname__" 617 (.str "Leaf" 616)::bZ P "__firstlineno__" 619 (.int 143 618)::aT P "__init__" 628 337::aT P "__static_attributes__" 631 338::[]) 5)::bh (oT #[])::bh (Cp ((145,4,336)::[]))::bh (rE "Leaf" 610 143 327)::bh (rF 329 326 (.str "notefall.rooms" 606))::fh 620::dY (inClass (top 55) 0) "Leaf.__init__" ic::bh (oT #[(.str "number" 629),(.str "rows" 630)])::bh (TL P)::bh (TM P)::bh (TN P)::bh (TQ P)::bh (tN 340)::bh (iC "object.__init_subclass__" (.ref 340))::bh (oT #[])::bh (iC "type.__prepare__" (.type "type"))::bh (ia (bZ P "__module__" 646 (.str "notefall.rooms" 606)::bZ P "__qualname__" 648 (.str "Inner" 647)::bZ P "__firstlineno__" 650 (.int 148 649)::aT P "__init__" 661 358::aT P "__static_attributes__" 666 359::[]) 5)::bh (oT #[])::bh (Cp ((150,4,357)::[]))::bh (rE "Inner" 641 148 348)::bh (rF 350 347 (.str "notefall.rooms" 606))::fh 651::dY (inClass (top 56) 0) "Inner.__init__" ic::bh (oT #[(.str "children" 662),(.str "number" 663),(.str "pivots" 664),(.str "tray" 665)])::bh (TR P)::bh (TU P)::bh (TV P)::bh (TX P)::bh (tN 361)::bh (iC "object.__init_subclass__" (.ref 361))::fh 674::dN (top 57) ic::dN (top 58) ic::bh (oT #[])::bh (iC "type.__prepare__" (.type "type"))::bh (ia (bZ P "__module__" 697 (.str "notefall.rooms" 606)::bZ P "__qualname__" 699 (.str "House" 698)::bZ P "__firstlineno__" 701 (.int 160 700)::aT P "__init__" 712 391::aT P "next_number" 719 398::aT P "lay" 727 405::aT P "take_in" 738 412::aT P "drain" 748 419::aT P "pour_into" 759 426::aT P "clear_out" 769 433::aT P "is_too_great" 777 440::aT P "mend" 788 447::aT P "part_child" 799 454::aT P "leaf_parts" 807 461::aT P "inner_parts" 817 468::aT P "part_numbers" 826 475::aT P "mend_top" 833 482::aT P "__static_attributes__" 839 483::[]) 18)::bh (oT #[])::bh (Cp ((162,4,390)::(169,4,397)::(172,4,404)::(175,4,411)::(178,4,418)::(181,4,425)::(184,4,432)::(187,4,439)::(190,4,446)::(193,4,453)::(196,4,460)::(199,4,467)::(202,4,474)::(205,4,481)::[]))::bh (rE "House" 692 160 381)::bh (rF 383 380 (.str "notefall.rooms" 606))::fh 702::dY (inClass (top 59) 0) "House.__init__" ic::dY (inClass (top 59) 1) "House.next_number" ic::dY (inClass (top 59) 2) "House.lay" ic::dY (inClass (top 59) 3) "House.take_in" ic::dY (inClass (top 59) 4) "House.drain" ic::dY (inClass (top 59) 5) "House.pour_into" ic::dY (inClass (top 59) 6) "House.clear_out" ic::dY (inClass (top 59) 7) "House.is_too_great" ic::dY (inClass (top 59) 8) "House.mend" ic::dY (inClass (top 59) 9) "House.part_child" ic::dY (inClass (top 59) 10) "House.leaf_parts" ic::dY (inClass (top 59) 11) "House.inner_parts" ic::dY (inClass (top 59) 12) "House.part_numbers" ic::dY (inClass (top 59) 13) "House.mend_top" ic::bh (oT #[(.str "fresh" 834),(.str "kept" 835),(.str "rule" 836),(.str "top" 837),(.str "trail" 838)])::bh (TY P)::bh (TZ P)::bh (T3 P)::bh (T4 P)::bh (tN 485)::bh (iC "object.__init_subclass__" (.ref 485))::fh 847::dN (top 60) ic::fh 856::dN (top 62) qg::dN (top 63) qg::dN (top 64) qg::dN (top 65) qg::dN (top 66) qg::dN (top 67) qg::dN (top 68) qg::fh 909::dN (top 70) gx::dN (top 71) gx::dN (top 72) gx::dN (top 73) gx::dN (top 74) gx::dN (top 75) gx::dN (top 76) gx::dN (top 77) gx::dN (top 78) gx::bh (ia (bZ P "at" 994 .none::[]) 1)::fh 995::IC (top 79) (.ref 595) gx::bh (oT #[(.int 0 1004),(.int 1000000000000 323)])::bh (T6 P)::fh 1008::X3 (top 80) (.ref 603) (.ref 604) gx::bh (ia (bZ P "at" 1021 .none::[]) 1)::fh 1022::IC (top 81) (.ref 612) gx::bh (ia (bZ P "at" 1032 .none::[]) 1)::fh 1033::IC (top 82) (.ref 620) gx::bh (oT #[])::bh (iC "type.__prepare__" (.type "type"))::bh (ia (bZ P "__module__" 1052 (.str "notefall.store" 1043)::bZ P "__qualname__" 1054 (.str "Store" 1053)::bZ P "__firstlineno__" 1056 (.int 304 1055)::aT P "__init__" 1064 641::aT P "check_free" 1071 648::aT P "ready_deed" 1079 655::aT P "do" 1087 662::aT P "marks" 1094 669::aT P "read" 1104 677::aT P "stretch" 1120 686::aT P "__len__" 1127 693::aT P "above" 1137 701::aT P "below" 1147 709::aT P "many" 1158 717::aT P "total" 1169 725::aT P "unlike" 1178 732::aT P "way" 1188 740::aT P "pour" 1197 747::aT P "press" 1206 754::aT P "squeeze" 1213 761::aT P "each" 1227 769::aT P "steps" 1234 776::aT P "twin" 1241 783::aT P "image" 1248 790::aT P "__static_attributes__" 1253 791::[]) 25)::bh (oT #[])::bh (Cp ((306,4,640)::(314,4,647)::(317,4,654)::(320,4,661)::(323,4,668)::(326,4,676)::(329,4,685)::(332,4,692)::(335,4,700)::(338,4,708)::(341,4,716)::(344,4,724)::(347,4,731)::(350,4,739)::(353,4,746)::(356,4,753)::(359,4,760)::(362,4,768)::(372,4,775)::(375,4,782)::(378,4,789)::[]))::bh (rE "Store" 1047 304 631)::bh (rF 633 630 (.str "notefall.store" 1043))::fh 1057::dY (inClass (top 84) 0) "Store.__init__" dm::dY (inClass (top 84) 1) "Store.check_free" dm::dY (inClass (top 84) 2) "Store.ready_deed" dm::dY (inClass (top 84) 3) "Store.do" dm::dY (inClass (top 84) 4) "Store.marks" dm::bh (ia (bZ P "at" 1095 .none::[]) 1)::fh 1096::xQ (inClass (top 84) 5) "Store.read" (.ref 670) dm::bh (oT #[(.int 0 1105),(.int 1000000000000 323)])::bh (T8 P)::fh 1109::uH (inClass (top 84) 6) "Store.stretch" (.ref 678) (.ref 679) dm::dY (inClass (top 84) 7) "Store.__len__" dm::bh (ia (bZ P "at" 1128 .none::[]) 1)::fh 1129::xQ (inClass (top 84) 8) "Store.above" (.ref 694) dm::bh (ia (bZ P "at" 1138 .none::[]) 1)::fh 1139::xQ (inClass (top 84) 9) "Store.below" (.ref 702) dm::bh (ia (bZ P "at" 1148 .none::[]) 1)::fh 1149::xQ (inClass (top 84) 10) "Store.many" (.ref 710) dm::bh (ia (bZ P "at" 1159 .none::[]) 1)::fh 1160::xQ (inClass (top 84) 11) "Store.total" (.ref 718) dm::dY (inClass (top 84) 12) "Store.unlike" dm::bh (ia (bZ P "at" 1179 .none::[]) 1)::fh 1180::xQ (inClass (top 84) 13) "Store.way" (.ref 733) dm::dY (inClass (top 84) 14) "Store.pour" dm::dY (inClass (top 84) 15) "Store.press" dm::dY (inClass (top 84) 16) "Store.squeeze" dm::bh (oT #[(.int 0 1214),(.int 1000000000000 323)])::fh 1215::uH (inClass (top 84) 17) "Store.each" (.ref 762) .none dm::dY (inClass (top 84) 18) "Store.steps" dm::dY (inClass (top 84) 19) "Store.twin" dm::dY (inClass (top 84) 20) "Store.image" dm::bh (oT #[(.str "house" 1249),(.str "last" 1250),(.str "rule" 1251),(.str "runs" 1252)])::bh (Ua P)::bh (Ub P)::bh (Uc P)::bh (Ud P)::bh (tN 793)::bh (iC "object.__init_subclass__" (.ref 793))::fh 1261::dN (top 85) dm::fh 1276::dN (top 87) cZ::dN (top 88) cZ::dN (top 89) cZ::dN (top 90) cZ::dN (top 91) cZ::bh (oT #[])::bh (iC "type.__prepare__" (.type "type"))::bh (ia (bZ P "__module__" 1313 (.str "notefall.images" 1274)::bZ P "__qualname__" 1315 (.str "Survey" 1314)::bZ P "__firstlineno__" 1317 (.int 404 1316)::aT P "__init__" 1327 843::aT P "takes" 1333 848::aT P "may_have" 1342 855::aT P "is_leaf_sound" 1348 860::aT P "has_floors" 1356 867::aT P "is_inner_sound" 1376 874::aT P "await_children" 1382 879::aT P "__static_attributes__" 1389 880::[]) 11)::bh (oT #[])::bh (Cp ((406,4,842)::(414,4,847)::(429,4,854)::(432,4,859)::(439,4,866)::(444,4,873)::(453,4,878)::[]))::bh (rE "Survey" 1308 404 833)::bh (rF 835 832 (.str "notefall.images" 1274))::fh 1318::dY (inClass (top 92) 0) "Survey.__init__" cZ::dY (inClass (top 92) 1) "Survey.takes" cZ::dY (inClass (top 92) 2) "Survey.may_have" cZ::dY (inClass (top 92) 3) "Survey.is_leaf_sound" cZ::dY (inClass (top 92) 4) "Survey.has_floors" cZ::dY (inClass (top 92) 5) "Survey.is_inner_sound" cZ::dY (inClass (top 92) 6) "Survey.await_children" cZ::bh (oT #[(.str "due" 1383),(.str "floors" 1384),(.str "fresh" 1385),(.str "known" 1386),(.str "last" 1387),(.str "rule" 1388)])::bh (Ue P)::bh (Ug P)::bh (Uh P)::bh (Ui P)::bh (tN 882)::bh (iC "object.__init_subclass__" (.ref 882))::fh 1397::dN (top 93) cZ::dN (top 94) cZ::fh 1422::dN (top 96) bR::dN (top 97) bR::dN (top 98) bR::dN (top 99) bR::dN (top 100) bR::dN (top 101) bR::dN (top 102) bR::dN (top 103) bR::dN (top 104) bR::dN (top 105) bR::dN (top 106) bR::dN (top 107) bR::dN (top 108) bR::dN (top 109) bR::dN (top 110) bR::dN (top 111) bR::dN (top 112) bR::dN (top 113) bR::dN (top 114) bR::dN (top 115) bR::[]) 0 0
noncomputable def Oz:List Addr:=2::3::30::31::32::43::44::55::56::67::68::79::80::91::92::110::111::114::120::121::127::128::134::135::141::142::148::149::155::156::169::170::176::177::178::184::185::191::192::198::199::205::206::212::213::219::220::226::227::236::237::241::242::246::247::253::254::258::259::265::266::270::271::275::276::282::283::289::290::296::297::298::304::305::309::310::314::315::316::322::323::336::337::339::340::341::342::357::358::360::361::362::363::371::372::376::377::390::391::484::485::486::487::495::496::500::501::507::508::512::513::517::518::522::523::527::528::534::535::541::542::555::556::562::563::569::570::595::601::602::604::612::620::640::641::668::669::670::676::677::679::694::702::710::718::733::789::790::792::793::794::795::803::804::808::809::813::814::818::819::823::824::828::829::842::843::847::848::854::855::859::860::866::867::873::874::878::879::881::882::883::884::892::893::899::900::906::907::913::914::920::921::927::928::934::935::941::942::948::949::955::956::962::963::969::970::974::975::981::982::986::987::991::992::996::997::1008::1009::1015::1016::1022::1023::1029::1030::[]
noncomputable def hQ:Program:={ PySem.Challenge.pw_notefall_k51_read_wherever_notes_lie with main:={ PySem.Challenge.pw_notefall_k51_read_wherever_notes_lie.main with body:=top 0::top 2::top 3::top 4::top 5::top 6::top 7::top 8::top 10::top 11::top 12::top 13::top 14::top 15::top 16::top 17::top 18::top 19::top 20::top 21::top 22::top 23::top 24::top 26::top 27::top 28::top 29::top 30::top 32::top 33::top 34::top 35::top 37::top 38::top 39::top 40::top 41::top 42::top 43::top 44::top 45::top 46::top 47::top 51::top 52::top 55::top 56::top 57::top 58::top 59::top 60::top 62::top 63::top 64::top 65::top 66::top 67::top 68::top 70::top 71::top 72::top 73::top 74::top 75::top 76::top 77::top 78::top 84::top 85::top 87::top 88::top 89::top 90::top 91::top 92::top 93::top 94::top 96::top 97::top 98::top 99::top 100::top 101::top 102::top 103::top 104::top 105::top 106::top 107::top 108::top 109::top 110::top 111::top 112::top 113::top 114::top 115::[] } }
noncomputable def Ec:List (Str×PySem.W.WData):=[((Str.ofString "END"),PySem.W.WData.int 1000000000000)]
noncomputable def AD:List Str:=[(Str.ofString "END"),(Str.ofString "value_of"),(Str.ofString "seen"),(Str.ofString "read_key"),(Str.ofString "read_stretch"),(Str.ofString "read_above"),(Str.ofString "read_many"),(Str.ofString "Store")]
noncomputable def WY (s:Shared):List (Option Obj):=Oz.map s.heap.get?
def WZ (K:Params->Frag)(w:World):List (Option Obj):=(K w.params).map λp=>some p.2
theorem hE (P:Params):Oz=(hK P).map (·.1):=by kernel_rfl
abbrev F6 (q:Program)(lv:List (Str×PySem.W.WData))(s:Shared):Bool:=xlAt q lv s&&recOk (PySem.W.RowW.records (PySem.W.OpenRow.toRowW PySem.Challenge.rw_notefall_k51_read_wherever_notes_lie.row)) s
noncomputable def hAo (P:Params):List Obj:=
(boot_o_0 P)::
(boot_o_1 P)::
(boot_o_2 P)::
(boot_o_3 P)::
(boot_o_4 P)::
(boot_o_5 P)::
(boot_o_6 P)::
(boot_o_7 P)::
(boot_o_8 P)::
(boot_o_9 P)::
(boot_o_10 P)::
(⟨(.type "tuple"),none,(.seq #[] 0),#[]⟩)::
(⟨.none,none,(.fields #[]),#[]⟩)::
(⟨(.type "code"),none,(.fields #[(.str "<module>" 182),(.str "<module>" 183),(.str "/claim/cut.py" 184),(.int 1 0),(.int 0 0),(.int 0 0),(.int 0 0),(.int 0 0),(.ref 11),(.bool false),(.int 181 0),(.ref 12),.none,.none,.none,.none,(.int 185 0),(.int 1 0),(.str "/claim/cut.py" 186)]),#[]⟩)::
(⟨(.type "frame"),none,.plain,#[(some (.ref 13)),(some (.ref 3)),(some (.ref 3)),none,(some (.str "__main__" 164)),none,(some (.ref 0))]⟩)::[]
noncomputable def PL:List Obj->Nat->BT->BT
 | [],_,t=>t
 | o::r,n,t=>PL r (n + 1) (t.ins n o)
noncomputable def hTr (P:Params):BT:=PL (X6 P) 0 .nil
noncomputable def Mp:Env:={ scope:=PySem.Challenge.pw_notefall_k51_read_wherever_notes_lie.main.scope,locals:=mainNs,globals:=mainNs,cells:=[],code:=(.ref 13),frame:=some 14 }
noncomputable abbrev PM:Code:=Code.body (behindTheImports PySem.Challenge.pw_notefall_k51_read_wherever_notes_lie) Mp
noncomputable abbrev W0 (P:Params)(os:OsState):SharedT:=⟨PL (hAo P) 0 .nil,15,{},Array.mk [],⟨0,0,0,0⟩,187,os⟩
noncomputable abbrev hSm (P:Params)(os:OsState):SharedT:=⟨hTr P,1031,{},Array.mk [],⟨0,0,0,0⟩,1601,os⟩
set_option maxRecDepth 100000 in
set_option maxHeartbeats 0 in
theorem X7 (w:World)(os:OsState):topGo PySem.W.Fast.tw14364793385576792824 PySem.Challenge.pw_notefall_k51_read_wherever_notes_lie w 11 (some (.ref 6)) 12 ⟨boot_heap w.params,Array.mk [],boot_drawn,boot_toks,os⟩ (topStub PySem.Challenge.pw_notefall_k51_read_wherever_notes_lie)=some ((W0 w.params os).abs,⟨denote PySem.W.Fast.tw14364793385576792824 PM,PM,⟨0,0,0,0⟩,[topFrame ⟨0,0,0,0⟩]⟩):=by kernel_rfl
set_option maxRecDepth 100000 in
set_option maxHeartbeats 0 in
theorem X8 (w:World)(os:OsState):segRun PySem.W.Fast.tw14364793385576792824 PySem.Challenge.pw_notefall_k51_read_wherever_notes_lie w 11 (some (.ref 6)) 1 1 (W0 w.params os).abs (blockOf (behindTheImports PySem.Challenge.pw_notefall_k51_read_wherever_notes_lie) Mp PM ⟨0,0,0,0⟩ [topFrame ⟨0,0,0,0⟩])=some (.next,(W0 w.params os).abs,PM,⟨0,0,0,0⟩):=by kernel_rfl
noncomputable abbrev xR (P:Params):Heap:=absHeap (hTr P) 1031 {}
set_option maxRecDepth 100000 in
set_option maxHeartbeats 0 in
theorem Uj (w:World)(os:OsState):PySem.W.Fast.tw10110043849684766642 PySem.W.Fast.tw14364793385576792824 PySem.Challenge.pw_notefall_k51_read_wherever_notes_lie w 11 (some (.ref 6)) 1 6711 (W0 w.params os) ⟨(PySem.W.Fast.tw12563942051412417395 (behindTheImports PySem.Challenge.pw_notefall_k51_read_wherever_notes_lie) Mp).wrap doneF deadEnd id id,PM,⟨0,0,0,0⟩,[topFrame ⟨0,0,0,0⟩]⟩=some (.next,hSm w.params os,PM,⟨619,0,623,15⟩):=by kernel_rfl
set_option maxRecDepth 100000 in
set_option maxHeartbeats 0 in
theorem Yb (w:World)(os:OsState):topRun PySem.W.Fast.tw14364793385576792824 PySem.Challenge.pw_notefall_k51_read_wherever_notes_lie w 11 (some (.ref 6)) 2 (hSm w.params os).abs (restOf [] Mp PM ⟨619,0,623,15⟩ [topFrame ⟨0,0,0,0⟩])=some ⟨xR w.params,Array.mk [],⟨0,0,0,0⟩,1601,os⟩:=by kernel_rfl
theorem PN {F F':(String->Option Builtin)->Program->World->Nat->Option Value->Nat->Nat->SharedT->Thread->Option (Flow×SharedT×Code×Pos)}{G G':List Stmt->Env->Sem Flow}{tb:String->Option Builtin}{m n:Nat}{S:SharedT}{l:List Stmt}{c:Code}{pos:Pos}{B:List Frame}{r:Option (Flow×SharedT×Code×Pos)}
   (h:F' tb p w m ann 1 n S ⟨(G' l env).wrap doneF deadEnd id id,c,pos,B⟩=r) (eF:F=F') (eG:G=G'):F tb p w m ann 1 n S ⟨(G l env).wrap doneF deadEnd id id,c,pos,B⟩=r:=by
 subst eF eG;exact h
theorem F7 {tb:String->Option Builtin}{m n0 n1 n2 n3:Nat}{q:Pos}{b:List Stmt}{S0 Sa R:Shared}{SA SM:SharedT}{Uk:Thread}{Ul Um jd:Pos}(ea:SA.abs=Sa)
   (h1:topGo tb p w m ann n0 S0 Uk=some (Sa,⟨denote tb (Code.body b env),Code.body b env,Ul,[topFrame q]⟩))
   (h2:segRun tb p w m ann 1 n1 Sa (blockOf b env (Code.body b env) Ul [topFrame q])=some (.next,Sa,Code.body b env,Um))
   (h3:segRunT tb p w m ann 1 n2 SA (piecesOf b env (Code.body b env) Um [topFrame q])=some (.next,SM,Code.body b env,jd))
   (h4:topRun tb p w m ann n3 SM.abs (restOf [] env (Code.body b env) jd [topFrame q])=some R):topRun tb p w m ann (n0 + (n1 + (n2 + n3))) S0 Uk=some R:=by
 subst ea;refine PySem.W.go_top h1 (PySem.W.piece_block h2 ?_);have h:=PySem.W.piece_app (rest:=[]) (PySem.W.segRun_of h3) h4;rw[List.append_nil]at h;exact h
set_option maxRecDepth 100000 in
set_option maxHeartbeats 0 in
theorem Yc (w:World)(os:OsState):topRun PySem.W.Fast.tw14364793385576792824 PySem.Challenge.pw_notefall_k51_read_wherever_notes_lie w 11 (some (.ref 6)) (12 + (1 + (6711 + 2))) ⟨boot_heap w.params,Array.mk [],boot_drawn,boot_toks,os⟩ (topStub PySem.Challenge.pw_notefall_k51_read_wherever_notes_lie)=some ⟨xR w.params,Array.mk [],⟨0,0,0,0⟩,1601,os⟩:=
 F7 rfl (X7 w os) (X8 w os) (PN (Uj w os) PySem.W.Fast.te10110043849684766642 PySem.W.Fast.te12563942051412417395) (Yb w os)
noncomputable abbrev hGa (p:Program)(im:List Stmt->List Str)(w:World)(os:OsState):Bool:=staticsOk (im p.main.body) (boot_heap w.params) (xR w.params)&&namesBound p (xR w.params)&&gensDone ⟨xR w.params,Array.mk [],⟨0,0,0,0⟩,1601,os⟩&&laidKept (boot_heap w.params) (xR w.params)
abbrev hG {t:Type}(p q:Program)(lo:List Str)(lv:List (Str×PySem.W.WData))(K:Params->Frag)(sn:Program->List Str->List Str->(Shared->Bool)->Bool->Shared->t)(gd:Program->List Str->t)(im:List Stmt->List Str)(w:World):Prop:=
 (λos:OsState=>(hGa p im w os,sn q lo (im p.main.body) (F6 q lv) true ⟨xR w.params,Array.mk [],⟨0,0,0,0⟩,1601,os⟩,WY ⟨xR w.params,Array.mk [],⟨0,0,0,0⟩,1601,os⟩))=λ_=>(true,gd q lo,WZ K w)
theorem Uo {t:Type}{p' q q':Program}{lo jt:List Str}{lv lv':List (Str×PySem.W.WData)}{K K':Params->Frag}{sn sn':Program->List Str->List Str->(Shared->Bool)->Bool->Shared->t}{gd:Program->List Str->t}{im im':List Stmt->List Str}
   (h:hG p' q' jt lv' K' sn' gd im' w) (e2:p=p') (e3:q=q') (e4:lo=jt) (e5:lv=lv') (e6:K=K') (e7:sn=sn') (e8:im=im'):hG p q lo lv K sn gd im w:=by
 subst e2 e3 e4 e5 e6 e7 e8;exact h
set_option maxRecDepth 100000 in
set_option maxHeartbeats 0 in
theorem hLa (w:World)(os:OsState):hGa PySem.Challenge.pw_notefall_k51_read_wherever_notes_lie PySem.W.Fast.tw5923862056798008813 w os=true:=by kernel_rfl
set_option maxRecDepth 100000 in
set_option maxHeartbeats 0 in
theorem hB0 (w:World)(os:OsState):(PySem.W.Fast.tw4187177175401517315 hQ AD (PySem.W.Fast.tw5923862056798008813 PySem.Challenge.pw_notefall_k51_read_wherever_notes_lie.main.body) (F6 hQ Ec) true ⟨xR w.params,Array.mk [],⟨0,0,0,0⟩,1601,os⟩).1=PyProof.Rows.expectedOf hQ:=by kernel_rfl
set_option maxRecDepth 100000 in
set_option maxHeartbeats 0 in
theorem hB1 (w:World)(os:OsState):(PySem.W.Fast.tw4187177175401517315 hQ AD (PySem.W.Fast.tw5923862056798008813 PySem.Challenge.pw_notefall_k51_read_wherever_notes_lie.main.body) (F6 hQ Ec) true ⟨xR w.params,Array.mk [],⟨0,0,0,0⟩,1601,os⟩).2.1=PySem.bltViewBooted:=by kernel_rfl
set_option maxRecDepth 100000 in
set_option maxHeartbeats 0 in
theorem hB2 (w:World)(os:OsState):(PySem.W.Fast.tw4187177175401517315 hQ AD (PySem.W.Fast.tw5923862056798008813 PySem.Challenge.pw_notefall_k51_read_wherever_notes_lie.main.body) (F6 hQ Ec) true ⟨xR w.params,Array.mk [],⟨0,0,0,0⟩,1601,os⟩).2.2.1=true:=by kernel_rfl
set_option maxRecDepth 100000 in
set_option maxHeartbeats 0 in
theorem hB3 (w:World)(os:OsState):(PySem.W.Fast.tw4187177175401517315 hQ AD (PySem.W.Fast.tw5923862056798008813 PySem.Challenge.pw_notefall_k51_read_wherever_notes_lie.main.body) (F6 hQ Ec) true ⟨xR w.params,Array.mk [],⟨0,0,0,0⟩,1601,os⟩).2.2.2.1=true:=by kernel_rfl
set_option maxRecDepth 100000 in
set_option maxHeartbeats 0 in
theorem hB4 (w:World)(os:OsState):(PySem.W.Fast.tw4187177175401517315 hQ AD (PySem.W.Fast.tw5923862056798008813 PySem.Challenge.pw_notefall_k51_read_wherever_notes_lie.main.body) (F6 hQ Ec) true ⟨xR w.params,Array.mk [],⟨0,0,0,0⟩,1601,os⟩).2.2.2.2.1=PySem.pinGoodD (PyProof.Rows.drecsOf hQ):=by kernel_rfl
set_option maxRecDepth 100000 in
set_option maxHeartbeats 0 in
theorem hB5 (w:World)(os:OsState):(PySem.W.Fast.tw4187177175401517315 hQ AD (PySem.W.Fast.tw5923862056798008813 PySem.Challenge.pw_notefall_k51_read_wherever_notes_lie.main.body) (F6 hQ Ec) true ⟨xR w.params,Array.mk [],⟨0,0,0,0⟩,1601,os⟩).2.2.2.2.2.1=PyProof.Rows.plainGoodE hQ (looseW hQ AD):=by kernel_rfl
set_option maxRecDepth 100000 in
set_option maxHeartbeats 0 in
theorem hB6 (w:World)(os:OsState):(PySem.W.Fast.tw4187177175401517315 hQ AD (PySem.W.Fast.tw5923862056798008813 PySem.Challenge.pw_notefall_k51_read_wherever_notes_lie.main.body) (F6 hQ Ec) true ⟨xR w.params,Array.mk [],⟨0,0,0,0⟩,1601,os⟩).2.2.2.2.2.2.1=PyProof.Rows.plainGoodD hQ AD:=by kernel_rfl
set_option maxRecDepth 100000 in
set_option maxHeartbeats 0 in
theorem hB7 (w:World)(os:OsState):(PySem.W.Fast.tw4187177175401517315 hQ AD (PySem.W.Fast.tw5923862056798008813 PySem.Challenge.pw_notefall_k51_read_wherever_notes_lie.main.body) (F6 hQ Ec) true ⟨xR w.params,Array.mk [],⟨0,0,0,0⟩,1601,os⟩).2.2.2.2.2.2.2.1=wideGood hQ:=by kernel_rfl
set_option maxRecDepth 100000 in
set_option maxHeartbeats 0 in
theorem hB8 (w:World)(os:OsState):(PySem.W.Fast.tw4187177175401517315 hQ AD (PySem.W.Fast.tw5923862056798008813 PySem.Challenge.pw_notefall_k51_read_wherever_notes_lie.main.body) (F6 hQ Ec) true ⟨xR w.params,Array.mk [],⟨0,0,0,0⟩,1601,os⟩).2.2.2.2.2.2.2.2=clsGoodW hQ AD:=by kernel_rfl
theorem Yd {A B C D E F G H I:Type}{x:A×B×C×D×E×F×G×H×I}{a b c d e f g h i}(h0:x.1=a)(h1:x.2.1=b)(h2:x.2.2.1=c)(h3:x.2.2.2.1=d)(h4:x.2.2.2.2.1=e)(h5:x.2.2.2.2.2.1=f)(h6:x.2.2.2.2.2.2.1=g)(h7:x.2.2.2.2.2.2.2.1=h)(h8:x.2.2.2.2.2.2.2.2=i):x=(a,b,c,d,e,f,g,h,i):=by subst h0 h1 h2 h3 h4 h5 h6 h7 h8;rfl
theorem hLb (w:World)(os:OsState):(PySem.W.Fast.tw4187177175401517315 hQ AD (PySem.W.Fast.tw5923862056798008813 PySem.Challenge.pw_notefall_k51_read_wherever_notes_lie.main.body) (F6 hQ Ec) true ⟨xR w.params,Array.mk [],⟨0,0,0,0⟩,1601,os⟩)=openGood hQ AD:=Yd (hB0 w os) (hB1 w os) (hB2 w os) (hB3 w os) (hB4 w os) (hB5 w os) (hB6 w os) (hB7 w os) (hB8 w os)
set_option maxRecDepth 100000 in
set_option maxHeartbeats 0 in
theorem hLc (w:World)(os:OsState):WY ⟨xR w.params,Array.mk [],⟨0,0,0,0⟩,1601,os⟩=WZ hK w:=by kernel_rfl
theorem hLk (w:World):hG PySem.Challenge.pw_notefall_k51_read_wherever_notes_lie hQ AD Ec hK PySem.W.Fast.tw4187177175401517315 openGood PySem.W.Fast.tw5923862056798008813 w:=funext λos=>congr (congrArg Prod.mk (hLa w os)) (congr (congrArg Prod.mk (hLb w os)) (hLc w os))
theorem Uq {tb tb':String->Option Builtin}{p':Program}{M:Nat}{S R:World->OsState->Shared}(h:∀w os,topRun tb' p' w 11 (some (.ref 6)) M (S w os) (topStub p')=some (R w os))(e1:tb=tb')(e2:p=p'):∀w os,topRun tb p w 11 (some (.ref 6)) M (S w os) (topStub p)=some (R w os):=by
 subst e1 e2;exact h
set_option maxRecDepth 100000 in
set_option maxHeartbeats 0 in
theorem hSz (w:World):((boot_heap w.params).isNs mainGlobals&&(Array.mk []:Array GenState).size==0,(boot_heap w.params).objs.size,(boot_heap w.params).nsMap mainGlobals "__annotations__")=(true,11,(some (.ref 6))):=by kernel_rfl
set_option maxRecDepth 100000 in
set_option maxHeartbeats 0 in
theorem hl:LeftO PySem.Challenge.pw_notefall_k51_read_wherever_notes_lie hQ AD (F6 hQ Ec) WY (WZ hK) 13528:=
 PySem.W.LeftO.of_pieces (H₁:=xR) (gs₁:=Array.mk []) (d₁:=⟨0,0,0,0⟩) (k₁:=1601) (PySem.W.boot_open (by kernel_rfl) Q1 (λs=>by kernel_rfl)) hSz (Uq (M:=(12 + (1 + (6711 + 2)))) Yc PySem.W.Fast.te14364793385576792824 rfl) Q1
   (λw=>Uo (hLk w) rfl rfl rfl rfl rfl PySem.W.Fast.te4187177175401517315 PySem.W.Fast.te5923862056798008813)
end eO
namespace L2
open PySem PySem.Spec PyProof.Rows
variable{C b dx it:Addr}{A:Around}{op:CmpOp}{e tg:Expr}{fd:FuncData}{base h h':Heap}{g:Int->Int->Int}{pins:List (Addr×Obj)}{kw:List (Str×Value)}{ch fp:List Addr}{outer:List Env}{es:List Expr}{body:List Stmt}{N ps:List Str}{us:List Value}{M:Model}{i n t':Nat}{o:Obj}{pos pos':Pos}{P prog:Program}{scope:Scope}{pl:Sem Bool}{s s':Shared}{m name qual x:Str}{mg:Str->Option Value}{κ:Type}{u:Value}{E Q:Value->Shared->Prop}{f:Value->Value->Sem Value}{w:World}
abbrev Key:=Sum Int Str
def xU:Key->Value->Bool
 | .inl k,v=>Value.isInt k v
 | .inr x,v=>Value.isStrOf x v
def Ye (w:World):Key->Int
 | .inl k=>hashInt k
 | .inr x=>hashStr w x
theorem cN:∀{k:Key}{v:Value},xU k v=true->(∃i t,k=Sum.inl i/\v=Value.int i t)∨(∃x t,k=Sum.inr x/\v=Value.str x t)
 | .inl i,v,h=>by
   obtain⟨t,e⟩:=Value.isInt_shape (k:=i) (v:=v) h;exact .inl ⟨i,t,rfl,e⟩
 | .inr x,v,h=>by
   obtain⟨t,e⟩:=Value.isStrOf_shape (x:=x) (v:=v) h;exact .inr ⟨x,t,rfl,e⟩
theorem F8 (i:Int)(t:Tok):xU (.inl i) (.int i t)=true:=by simp[xU,Value.isInt]
theorem F9 (x:Str)(t:Tok):xU (.inr x) (.str x t)=true:=by simp[xU,Value.isStrOf]
theorem PR (a b:Int):decide ((Sum.inl a:Key)=Sum.inl b)=(a==b):=by
 by_cases e:a=b
 . subst e;simp
 . have h:¬ (Sum.inl a:Key)=Sum.inl b:=λq=>e (Sum.inl.inj q);rw[Ha h];exact(beq_eq_false_iff_ne.mpr e).symm
theorem PU (a b:Str):decide ((Sum.inr a:Key)=Sum.inr b)=decide (a=b):=by
 by_cases e:a=b
 . subst e;simp
 . have h:¬ (Sum.inr a:Key)=Sum.inr b:=λq=>e (Sum.inr.inj q);rw[Ha h,Ha e]
theorem PV (a:Int)(b:Str):decide ((Sum.inl a:Key)=Sum.inr b)=false:=Ha (λq=>nomatch q)
theorem PX (a:Str)(b:Int):decide ((Sum.inr a:Key)=Sum.inl b)=false:=Ha (λq=>nomatch q)
def c9 (prog:Program)(w:World):PySem.KeyKind prog w Key where
 is:=xU
 hash:=Ye w
 inj:=λv a b ha hb=>by
   rcases cN ha with ⟨i,t,rfl,rfl⟩ | ⟨x,t,rfl,rfl⟩
   . rcases cN hb with ⟨j,u,rfl,e⟩ | ⟨y,u,rfl,e⟩
     . injection e with e1 _;rw[e1]
     . exact nomatch e
   . rcases cN hb with ⟨j,u,rfl,e⟩ | ⟨y,u,rfl,e⟩
     . exact nomatch e
     . injection e with e1 _;rw[e1]
 byValue:=λk v h=>by
   rcases cN h with ⟨i,t,rfl,rfl⟩ | ⟨x,t,rfl,rfl⟩ <;> rfl
 pyHash:=λhv h=>by
   rcases cN hv with ⟨i,t,rfl,rfl⟩ | ⟨x,t,rfl,rfl⟩
   . exact wpAny_pyHash_int h
   . exact wpAny_pyHash_str h
 eqBool:=λhu hv h=>by
   rcases cN hu with ⟨i,t,rfl,rfl⟩ | ⟨x,t,rfl,rfl⟩
   . rcases cN hv with ⟨j,u,rfl,rfl⟩ | ⟨y,u,rfl,rfl⟩
     . rw[PR]at h;exact wpAny_eqBool_int h
     . rw[PV]at h;exact SeqAt.EqAt.int_str i t y u _ _ _ _ h
   . rcases cN hv with ⟨j,u,rfl,rfl⟩ | ⟨y,u,rfl,rfl⟩
     . rw[PX]at h;exact SeqAt.EqAt.str_int x t j u _ _ _ _ h
     . rw[PU]at h;exact wpAny_eqBool_str h
 «strs»:=λk x t v h=>by
   rcases cN h with ⟨i,u,rfl,e⟩ | ⟨y,u,rfl,e⟩
   . exact nomatch e
   . injection e with e1 _;subst e1;cases v <;> rfl
theorem AE (prog:Program)(w:World)(i:Int)(t:Tok):(c9 prog w).is (.inl i) (.int i t)=true:=F8 i t
theorem AF (prog:Program)(w:World)(x:Str)(t:Tok):(c9 prog w).is (.inr x) (.str x t)=true:=F9 x t
inductive V where
 | bO | bl (b:Bool) | int (i:Int) | str (x:Str) | Ef (b:Array UInt8) | PY (b:UInt64) | ref (a:Addr) | ty (n:String)
 deriving DecidableEq
def RelV:V->Value->Prop
 | .bO,u=>u=Value.none
 | .bl b,u=>u=Value.bool b
 | .int i,u=>∃t,u=Value.int i t
 | .str x,u=>∃t,u=Value.str x t
 | .Ef b,u=>∃t,u=Value.bytes b t
 | .PY b,u=>∃t,u=Value.float b t
 | .ref a,u=>u=Value.ref a
 | .ty n,u=>u=Value.type n
abbrev Vals:List V->List Value->Prop:=Paired RelV
theorem Vals.length {xs:List V}(r:Vals xs us):xs.length=us.length:=xc r
theorem Vals.get {xs:List V}{us:List Value}{i:Nat}{x:V}(h:Vals xs us):xs[i]?=some x->∃u,us[i]?=some u/\RelV x u:=by
 induction h generalizing i with
 | nil=>intro e;cases e
 | cons r t ih=>intro e;cases i with
  | zero=>cases e;exact⟨_,rfl,r⟩
  | succ i=>exact ih (i:=i) e
theorem Vals.set {x:V}{u:Value}(r:RelV x u){xs:List V}{us:List Value}(i:Nat)(h:Vals xs us):Vals (xs.set i x) (us.set i u):=by
 induction h generalizing i with
 | nil=>exact .nil
 | cons q t ih=>cases i with
  | zero=>exact .cons r t
  | succ i=>exact .cons q (ih i)
theorem Vals.append {xs ys:List V}{us ws:List Value}(h:Vals xs us)(s:Vals ys ws):Vals (xs++ys) (us++ws):=by
 induction h with
 | nil=>exact s
 | cons r t ih=>exact .cons r ih
theorem Vals.take {xs:List V}{us:List Value}(n:Nat)(h:Vals xs us):Vals (xs.take n) (us.take n):=by
 induction h generalizing n with
 | nil=>cases n <;> exact .nil
 | cons r t ih=>cases n with
  | zero=>exact .nil
  | succ n=>exact .cons r (ih n)
theorem Vals.drop {xs:List V}{us:List Value}(n:Nat)(h:Vals xs us):Vals (xs.drop n) (us.drop n):=by
 induction h generalizing n with
 | nil=>cases n <;> exact .nil
 | cons r t ih=>cases n with
  | zero=>exact .cons r t
  | succ n=>exact ih n
def oh:Option V->Option Value->Prop
 | some v,some u=>RelV v u
 | none,none=>True
 | _,_=>False
def KV :List (κ×V)->List (κ×Value)->Prop:=Paired λ(p:κ×V) (q:κ×Value)=>p.1=q.1/\RelV p.2 q.2
def kV:Key->V
 | .inl i=>.int i
 | .inr x=>.str x
inductive HO where
 | lst (xs:List V)
 | tup (xs:List V)
 | dK (aA:List (Key×V)) | dT (aA:List (List Key×V))
 | set (S:Int->Bool) (n:Nat)
 | ins (C dx:Addr) (fs:List (Str×V))
 | own (x:Addr)
 | xd (fs:List (Str×V))
 | met (f x:Addr)
 | Yg (lo hi:Int)
 | sP (o:Obj) (u:HO)
 | ID (ps:Array Value)
 | ext (φ:Heap->Prop)
abbrev Hp:=Addr->Option HO
def upd (H:Hp)(a:Addr)(o:HO):Hp:=λb=>if b=a then some o else H b
theorem af {H:Hp}{a:Addr}{o:HO}:upd H a o a=some o:=by unfold upd;rw[Fh rfl]
theorem au {H:Hp}{a:Addr}{o:HO}(h:b≠a):upd H a o b=H b:=by unfold upd;rw[Ee h]
theorem iD {H:Hp}{a:Addr}{o u:HO}:upd (upd H a o) a u=upd H a u:=by
 funext b;unfold upd;split <;> rfl
theorem OA {H:Hp}{a:Addr}{o u:HO}(h:H a=some o)(h':H b=some u)(d:o≠u):a≠b:=by
 intro e;subst e;rw[h]at h';exact d (Option.some.inj h')
theorem aH {H:Hp}{a:Addr}{o:HO}(h:H a=some o)(h':H b=none):a≠b:=by
 intro e;subst e;rw[h]at h';cases h'
section
variable (P:Program)(w:World)
def cO (H:Hp)(h:Heap)(a:Addr):HO->Prop
 | .lst xs=>xs.length<=sizeLine/\∃(bu:List Value) (n:Nat),Vals xs bu/\h.get? a=some { cls:=.type "list",data:=.seq bu.toArray n }
 | .tup xs=>xs.length<=sizeLine/\∃bu:List Value,Vals xs bu/\IsTup h a bu.toArray
 | .dK aA=>aA.length<=sizeLine/\(a==sysModules)=false/\∃vs,KV aA vs/\h.DictOf (c9 P w) a vs
 | .dT aA=>aA.length<=sizeLine/\(a==sysModules)=false/\∃xs:List (List Key×Addr×Value),
     Paired (λ(p:List Key×V) (q:List Key×Addr×Value)=>p.1=q.1/\H q.2.1=some (.tup (p.1.map kV))/\RelV p.2 q.2.2) aA xs/\
     ∃o es ep,h.get? a=some o/\o.ExactDict/\o.data=.dict es ep/\es.toList=xs.map (entryOfKey (tupleKind (c9 P w)))/\(xs.map (·.1)).Nodup
 | .set S n=>h.SetOf (intKind P w) a S n
 | .ins C dx fs=>H dx=some (.own a)/\fs.length<=1000/\dx≠a/\h.get? a=some (instObj C dx)/\
     ∃mA,h.Ns1 dx mA/\(∀f,oh (fs.lookup f) (mA f))/\PySem.Within mA (fs.map (·.1))
 | .own _=>∃o,h.get? a=some o
 | .xd fs=>∃mA,h.Ns1 a mA/\∀f,oh (fs.lookup f) (mA f)
 | .Yg lo hi=>∃t u v,h.get? a=some { cls:=.type "range",data:=.fields #[.int lo t,.int hi u,.int 1 v] }
 | .sP o u=>h.get? a=some o/\cO H h a u
 | .ID ps=>h.get? a=some { cls:=.none,data:=.fields ps }
 | .met f x=>h.get? a=some (methodObj (.ref f) (.ref x))
 | .ext φ=>φ h/\(∃o,h.get? a=some o)/\∀h1 h2:Heap,φ h1->(∀o,h1.get? a=some o->h2.get? a=some o)->φ h2
def pB (H:Hp)(h:Heap):Prop:=∀a o,H a=some o->cO P w H h a o
end
section
variable {H H':Hp}{a:Addr}{o:HO}
theorem cO.lt (x:cO P w H h a o):a < h.objs.size:=by
 cases o with
 | lst xs=>obtain⟨_,_,_,_,e⟩:=x;exact ag e
 | tup xs=>obtain⟨_,_,_,p⟩:=x;exact p.lt
 | dK aA=>obtain⟨_,_,_,_,o,_,_,e,_⟩:=x;exact ag e
 | dT aA=>obtain⟨_,_,_,_,o,_,_,e,_⟩:=x;exact ag e
 | set S n=>obtain⟨o,_,_,_,e,_⟩:=x;exact ag e
 | ins C dx fs=>obtain⟨_,_,_,e,_⟩:=x;exact ag e
 | own y=>obtain⟨_,e⟩:=x;exact ag e
 | xd fs=>obtain⟨_,⟨_,_,_,e,_⟩,_⟩:=x;exact ag e
 | Yg lo hi=>obtain⟨_,_,_,e⟩:=x;exact ag e
 | sP ob u=>obtain⟨e,_⟩:=x;exact ag e
 | ID ps=>exact ag (show h.get? a=some _ from x)
 | met f y=>exact ag (show h.get? a=some _ from x)
 | ext φ=>obtain⟨_,⟨_,e⟩,_⟩:=x;exact ag e
theorem Paired.PZ {α β:Type}{F G:α->β->Prop}{l₁:List α}{l₂:List β}(h:Paired F l₁ l₂)(f:∀a b,F a b->G a b):Paired G l₁ l₂:=by
 induction h with
 | nil=>exact .nil
 | cons r t ih=>exact .cons (f _ _ r) ih
theorem cO.pD (x:cO P w H h a o)(k:∀b u,(b=a∨H b=some (.own a))->h.get? b=some u->h'.get? b=some u)
   (ho:∀b,H b=some (.own a)->H' b=some (.own a)) (ht:∀b xs,H b=some (.tup xs)->H' b=some (.tup xs)):cO P w H' h' a o:=by
 induction o with
 | lst xs=>obtain⟨z,bu,n,r,e⟩:=x;exact⟨z,bu,n,r,k _ _ (.inl rfl) e⟩
 | tup xs=>obtain⟨z,bu,r,ob,e,c⟩:=x;exact⟨z,bu,r,ob,k _ _ (.inl rfl) e,c⟩
 | dK aA=>obtain⟨z,y,vs,r,ob,es,ep,e,c⟩:=x;exact⟨z,y,vs,r,ob,es,ep,k _ _ (.inl rfl) e,c⟩
 | dT aA=>
   obtain⟨z,y,xs,r,ob,es,ep,e,c⟩:=x;exact⟨z,y,xs,Paired.PZ r λp q z=>⟨z.1,ht _ _ z.2.1,z.2.2⟩,ob,es,ep,k _ _ (.inl rfl) e,c⟩
 | set S n=>obtain⟨ob,es,ep,t,e,c⟩:=x;exact⟨ob,es,ep,t,k _ _ (.inl rfl) e,c⟩
 | ins C dx fs=>
   obtain⟨d,z,ne,e,mA,⟨od,es,ep,e2,c⟩,r⟩:=x;exact⟨ho _ d,z,ne,k _ _ (.inl rfl) e,mA,⟨od,es,ep,k _ _ (.inr d) e2,c⟩,r⟩
 | own y=>obtain⟨ob,e⟩:=x;exact⟨ob,k _ _ (.inl rfl) e⟩
 | xd fs=>obtain⟨mA,⟨od,es,ep,e,c⟩,r⟩:=x;exact⟨mA,⟨od,es,ep,k _ _ (.inl rfl) e,c⟩,r⟩
 | Yg lo hi=>obtain⟨t,u,v,e⟩:=x;exact⟨t,u,v,k _ _ (.inl rfl) e⟩
 | sP ob u ih=>obtain⟨e,q⟩:=x;exact⟨k _ _ (.inl rfl) e,ih q⟩
 | ID ps=>
   have e:h.get? a=some { cls:=.none,data:=.fields ps }:=x;show h'.get? a=some { cls:=.none,data:=.fields ps };exact k a _ (.inl rfl) e
 | met f y=>
   have e:h.get? a=some (methodObj (.ref f) (.ref y)):=x;show h'.get? a=some (methodObj (.ref f) (.ref y));exact k a _ (.inl rfl) e
 | ext φ=>obtain⟨p,⟨o,e⟩,st⟩:=x;exact⟨st _ _ p λo q=>k _ _ (.inl rfl) q,⟨o,k _ _ (.inl rfl) e⟩,st⟩
theorem pB.lt (x:pB P w H h)(e:H a=some o):a < h.objs.size:=(x a o e).lt
theorem pB.fresh (x:pB P w H h)(e:h.objs.size<=a):H a=none:=by
 cases q:H a with
 | none=>rfl
 | some u=>exact absurd (bp (x.lt q) e) (fw _)
theorem pB.kept (x:pB P w H h)(k:∀b u,h.get? b=some u->h'.get? b=some u):pB P w H h':=λa o e=>
 (x a o e).pD (λb u _ q=>k b u q) (λ_ q=>q) λ_ _ q=>q
theorem pB.laid (x:pB P w H h)(k:∀b u,h.get? b=some u->h'.get? b=some u)(hp:h.objs.size<=a)(new:cO P w (upd H a o) h' a o):pB P w (upd H a o) h':=λb u e=>by
 have hn:=x.fresh hp
 by_cases hb:b=a
 . subst hb;rw[af]at e;cases e;exact new
 . rw[au hb]at e;exact(x b u e).pD (λc v _ q=>k c v q) (λc q=>by rw[au (aH q hn)];exact q) λc xs q=>by rw[au (aH q hn)];exact q
end
def Rd (H:Hp)(a:Addr)(u:HO):Prop:=H a=some u∨∃o,H a=some (.sP o u)
theorem Rd.of {H:Hp}{a:Addr}{u:HO}(h:H a=some u):Rd H a u:=.inl h
theorem Rd.ok {H:Hp}{a:Addr}{u:HO}(r:Rd H a u)(x:pB P w H h):cO P w H h a u:=by
 rcases r with r | ⟨o,r⟩
 . exact x a u r
 . obtain⟨_,q⟩:=x a _ r;exact q
def Ur:Option HO->Prop
 | some (.lst _)=>True
 | some (.dK _)=>True
 | some (.dT _)=>True
 | some (.set _ _)=>True
 | some (.ins _ _ _)=>True
 | some (.ext _)=>True
 | _=>False
section
variable {H:Hp}{x e:Addr}{o':HO}
theorem pB.write (ok:pB P w H h)(mu:Ur (H x))(he:e=x∨H e=some (.own x))(k:∀b u,b≠e->h.get? b=some u->h'.get? b=some u)(SI:∃u,h'.get? e=some u)
   (new:cO P w (upd H x o') h' x o'):pB P w (upd H x o') h':=λb u q=>by
 have Us:∀c y,H c=some (.own y)->c≠x:=λc y r z=>by subst z;rw[r]at mu;exact mu
 have Yh:∀c xs,H c=some (.tup xs)->c≠x:=λc xs r z=>by subst z;rw[r]at mu;exact mu
 by_cases hb:b=x
 . subst hb;rw[af]at q;cases q;exact new
 . rw[au hb]at q
   by_cases hbe:b=e
   . have q':H b=some (.own x):=by
       rcases he with z | z
       . exact absurd (hbe.trans z) hb
       . rw[hbe];exact z
     rw[q]at q';cases q';obtain⟨v,hv⟩:=SI;exact⟨v,by rw[hbe];exact hv⟩
   . refine(ok b u q).pD (λc v hc r=>k c v ?_ r) (λc r=>by rw[au (Us c b r)];exact r) λc xs r=>by rw[au (Yh c xs r)];exact r
     rcases hc with rfl | hc
     . exact hbe
     . rintro rfl;rcases he with z | z
       . exact Us c b hc z
       . rw[hc]at z;cases z;exact hb rfl
end
structure Un (fs ex:List Addr)(H H':Hp)(h h':Heap):Prop where
 keep:∀b o,h.get? b=some o->H b=none->b∉fs->b∉ex->h'.get? b=some o
 slot:∀b o,h.get? b=some o->H b=none->b∈fs->b∉ex->∃sl,h'.get? b=some { o with slots:=sl }
 free:∀b o,h.get? b=some o->H b=none->b∉ex->H' b=none
 there:∀b o,h.get? b=some o->b∉ex->∃o',h'.get? b=some o'
 tQ:∀b xs,H b=some (.tup xs)->H' b=some (.tup xs)
 rH:∀b o u,H b=some (.sP o u)->H' b=some (.sP o u)
 tR:∀b ps,H b=some (.ID ps)->∃more,H' b=some (.ID (ps++more))
section
variable {fs Ut ex ex':List Addr}{H H1 H2:Hp}{h1 h2:Heap}{a x e:Addr}{o:HO}
theorem Un.any (u:Un fs ex H H1 h h1){ob:Obj}(q:h.get? b=some ob)(n:H b=none)(hx:b∉ex):∃sl,h1.get? b=some { ob with slots:=sl }:=by
 by_cases hb:b∈fs
 . exact u.slot b ob q n hb hx
 . exact⟨ob.slots,u.keep b ob q n hb hx⟩
theorem Un.trans (a:Un fs ex H H1 h h1)(b:Un fs ex H1 H2 h1 h2):Un fs ex H H2 h h2 where
 keep:=λc ob q n hc hx=>b.keep c ob (a.keep c ob q n hc hx) (a.free c ob q n hx) hc hx
 slot:=λc ob q n hc hx=>by
   obtain⟨sl,e1⟩:=a.slot c ob q n hc hx;obtain⟨sl',e2⟩:=b.slot c _ e1 (a.free c ob q n hx) hc hx;exact⟨sl',e2⟩
 free:=λc ob q n hx=>by
   obtain⟨o',e1⟩:=a.there c ob q hx;exact b.free c o' e1 (a.free c ob q n hx) hx
 there:=λc ob q hx=>by
   obtain⟨o',e1⟩:=a.there c ob q hx;exact b.there c o' e1 hx
 tQ:=λc xs q=>b.tQ c xs (a.tQ c xs q)
 rH:=λc ob xs q=>b.rH c ob xs (a.rH c ob xs q)
 tR:=λc ps q=>by
   obtain⟨m1,e1⟩:=a.tR c ps q;obtain⟨m2,e2⟩:=b.tR c _ e1;exact⟨m1++m2,by rw[e2,Array.append_assoc]⟩
theorem Un.kept (k:∀b u,h.get? b=some u->h'.get? b=some u):Un fs ex H H h h':=
 ⟨λb ob q _ _ _=>k b ob q,λb ob q _ _ _=>⟨ob.slots,k b ob q⟩,λ_ _ _ n _=>n,λb ob q _=>⟨ob,k b ob q⟩,λ_ _ q=>q,λ_ _ _ q=>q,λ_ ps q=>⟨#[],by rw[q];simp⟩⟩
theorem Un.refl:Un fs ex H H h h:=Un.kept λ_ _ q=>q
theorem Un.laid (k:∀b u,h.get? b=some u->h'.get? b=some u)(hp:h.objs.size<=a)(hn:H a=none):Un fs ex H (upd H a o) h h' where
 keep:=λb u q _ _ _=>k b u q
 slot:=λb u q _ _ _=>⟨u.slots,k b u q⟩
 free:=λb u q n _=>by rw[au (cv (bp (ag q) hp))];exact n
 there:=λb u q _=>⟨u,k b u q⟩
 tQ:=λb xs q=>by rw[au (aH q hn)];exact q
 rH:=λb u xs q=>by rw[au (aH q hn)];exact q
 tR:=λb ps q=>⟨#[],by rw[au (aH q hn),q];simp⟩
theorem Un.write (mu:Ur (H x))(he:e=x∨H e=some (.own x))(k:∀b u,b≠e->h.get? b=some u->h'.get? b=some u)(SI:∃u,h'.get? e=some u):Un fs ex H (upd H x o) h h':=by
 have hx:∀b,H b=none->b≠x:=λb n z=>by subst z;rw[n]at mu;exact mu
 have hb:∀b,H b=none->b≠e:=λb n z=>by
   subst z;rcases he with r | r
   . exact hx b n r
   . rw[n]at r;cases r
 have hm:∀b u,H b=some u->¬ Ur (some u)->b≠x:=λb u q nm z=>by subst z;rw[q]at mu;exact nm mu
 refine⟨λb u q n _ _=>k b u (hb b n) q,λb u q n _ _=>⟨u.slots,k b u (hb b n) q⟩,λb u q n _=>by rw[au (hx b n)];exact n,λb u q _=>?_,
   λb xs q=>by rw[au (hm b _ q λz=>z)];exact q,λb u xs q=>by rw[au (hm b _ q λz=>z)];exact q,λb ps q=>⟨#[],by rw[au (hm b _ q λz=>z),q];simp⟩⟩
 by_cases hbe:b=e
 . subst hbe;exact SI
 . exact⟨u,k b u hbe q⟩
end
def W2 (h:Heap)(H:Hp):List Addr:=(List.range h.objs.size).filter λa=>(H a).isSome
def zd (h:Heap)(H:Hp):Heap:=hideAll h (W2 h H)
theorem Gd (h:Heap)(H:Hp):(zd h H).objs.size=h.objs.size:=PySem.W.hideAll_size _ _
theorem IE {H:Hp}(e:h.get? b=some o)(n:H b=none):(zd h H).get? b=some o:=
 PySem.W.hideAll_get _ e λhm=>by
   have q:(H b).isSome=true:=(qr.mp hm).2;rw[n]at q;simp at q
theorem Mq {H:Hp}(e:(zd h H).get? b=some o):h.get? b=some o/\H b=none:=by
 have e':h.get? b=some o:=PySem.W.of_hideAll (W2 h H) e;refine⟨e',?_⟩;cases q:H b with
 | none=>rfl
 | some x=>
   have hm:b∈W2 h H:=qr.mpr ⟨List.mem_range.mpr (ag e'),by simp[q]⟩;have z:(zd h H).get? b=none:=PySem.W.hideAll_none (W2 h H) hm;rw[z]at e;cases e
def Mr (g h:Heap)(L:Addr):List (Addr×Obj):=(List.range h.objs.size).filterMap λa=>if a=L∨(g.get? a).isSome=true then none else (h.get? a).map λo=>(a,o)
def rest (g h:Heap)(L d:Addr):List (Addr×Obj):=(Mr g h L).filter λp=>decide (p.1≠d)
variable{H:Hp}{vs xs:List V}
structure Mod (K:Frag)(mg:Str->Option Value)(base:Heap):Prop where
 Ms:K.In base
 glob:base.Ns mainGlobals mg
 blt:∃mb,base.Ns builtinsNs mb/\∀x:Str,x≠"__name__"->mb x=bootBuiltins x
 nolimit:base.NoLimit
structure Cx where
 prog:Program
 w:World
 K:Frag
 mg:Str->Option Value
 base:Heap
 A:Around
 N:List Str
 s₀:Shared
 H₀:Hp
 env:Env
 outer:List Env
 stack:List Env
 ex:List Addr
 fn:Str->Bool
 calm:Bool
 pn:List (Addr×Obj)
 xe:Value->Shared->Prop
def Cd (l:List Env):List Addr:=l.filterMap (·.frame)
abbrev Cx.fs (X:Cx):List Addr:=Cd X.outer
def SJ (sc:Scope)(x:Str):Prop:=sc.names.lookup x=some .local∨sc.names.lookup x=some .cell∨sc.names.lookup x=some .free
def Loc (sc:Scope)(x:Str):Prop:=sc.names.lookup x=some .local∨sc.names.lookup x=some .cell
def Look (env:Env)(h:Heap)(m:Str->Option Value)(x:Str)(u:Value):Prop:=
 (env.kindOf x=some .local/\m x=some u)∨((env.kindOf x=some .cell∨env.kindOf x=some .free)/\∃c,env.cells.lookup x=some c/\h.IsCell c (some u))
structure Cx.Ok (X:Cx):Prop where
 mod:Mod X.K X.mg X.base
 kind:X.env.scope.kind=.function
 glob:X.env.globals=mainGlobals
 blt:X.env.builtins=builtinsNs
 above:X.s₀.heap.objs.size<=X.env.locals
 inj:∀x y c,X.env.cells.lookup x=some c->X.env.cells.lookup y=some c->x=y
 has:∀x,(X.env.kindOf x=some .cell∨X.env.kindOf x=some .free)->∃c,X.env.cells.lookup x=some c
 SK:∀x c,X.fn x=true->X.env.cells.lookup x=some c->X.s₀.heap.objs.size<=c
 hd:X.calm=true->X.A.handled=none
 frames:X.A.frames=some X.stack
 Uu:X.stack=X.outer∨(X.stack=X.env::X.outer/\X.env.frame=some X.env.locals)
 Yi:∀b∈X.ex,b≠X.env.locals/\∀x c,X.env.cells.lookup x=some c->c≠b
 bs:∀b o,X.base.get? b=some o->X.s₀.heap.get? b=some o/\X.H₀ b=none
 Ma:X.base.objs.size<=X.s₀.heap.objs.size
 Ge:∀b o,X.base.get? b=some o->b∉X.ex
 IF:∀b∈X.ex,b∉X.fs
 rJ:X.s₀.heap.FunFrames X.base X.outer
 OB:∀b∈X.fs,X.H₀ b=none
structure Inv (X:Cx)(pins:List (Addr×Obj))(σ:List (Option V))(H:Hp)(s:Shared):Prop where
 ok:X.Ok
 os:s.os=X.s₀.os
 bare:AllBare s.gens
 base:Un X.fs X.ex X.H₀ H X.s₀.heap s.heap
 loc:∃m,s.heap.Ns X.env.locals m/\∀(i:Nat) (x:Str) (v:V),X.N[i]?=some x->σ[i]?=some (some v)->SJ X.env.scope x->∃u,RelV v u/\Look X.env s.heap m x u
 cell:∀x c,X.env.cells.lookup x=some c->∃v,s.heap.IsCell c v
 free:H X.env.locals=none
 kQ:∀x c,X.env.cells.lookup x=some c->H c=none
 pin:∀p∈X.pn++pins,s.heap.get? p.1=some p.2/\H p.1=none/\p.1≠X.env.locals/\p.1∉X.fs/\∀v,p.2.data≠.cell v
 c7:pB X.prog X.w H s.heap
 len:σ.length=X.N.length
section
variable {X:Cx}{σ:List (Option V)}{H':Hp}
theorem Cx.Ok.Yj (ok:X.Ok)(e:X.base.get? b=some o):b∉X.fs:=λhb=>by
 have:=(ok.rJ.mem hb).1;rw[e]at this;cases this
theorem Inv.bs (I:Inv X pins σ H s):∀b o,X.base.get? b=some o->s.heap.get? b=some o/\H b=none:=λb o e=>
 ⟨I.base.keep b o (I.ok.bs b o e).1 (I.ok.bs b o e).2 (I.ok.Yj e) (I.ok.Ge b o e),I.base.free b o (I.ok.bs b o e).1 (I.ok.bs b o e).2 (I.ok.Ge b o e)⟩
theorem Inv.bk (I:Inv X pins σ H s):∀b o,X.base.get? b=some o->s.heap.get? b=some o:=λb o e=>(I.bs b o e).1
theorem Inv.mod (I:Inv X pins σ H s):Mod X.K X.mg X.base:=I.ok.mod
theorem Inv.qd (I:Inv X pins σ H s):X.K.In s.heap:=I.ok.mod.Ms.keeps I.bk
theorem Inv.nolimit (I:Inv X pins σ H s):s.heap.NoLimit:=I.ok.mod.nolimit.keeps I.bk
theorem Inv.lt (I:Inv X pins σ H s):X.env.locals < s.heap.objs.size:=let ⟨_,hn,_⟩:=I.loc;hn.lt
theorem Inv.sz (I:Inv X pins σ H s):X.s₀.heap.objs.size<=s.heap.objs.size:=cn I.ok.above (fg I.lt)
theorem Inv.P0 (I:Inv X pins σ H s){a:Addr}(h:s.heap.objs.size<=a):a∉X.fs:=λhb=>by
 obtain⟨_,o,ho,_⟩:=I.ok.rJ.mem hb;exact absurd (bp (ag ho) (cn I.sz h)) (fw _)
theorem Inv.P1 (I:Inv X pins σ H s):∀x c,X.env.cells.lookup x=some c->c≠X.env.locals:=λx c e z=>by
 obtain⟨v,o,ho,hd⟩:=I.cell x c e;obtain⟨m,⟨o',es,ep,Cr,hd',_⟩,_⟩:=I.loc;rw[z,Cr]at ho;cases ho;rw[hd']at hd;cases hd
theorem Inv.rJ (I:Inv X pins σ H s):s.heap.FunFrames X.base X.outer:=by
 have all:∀(l:List Env),(∀b∈Cd l,b∈X.fs)->X.s₀.heap.FunFrames X.base l->s.heap.FunFrames X.base l:=by
   intro l;induction l with
   | nil=>intro _ _;trivial
   | cons env r ih=>
     intro hs hl;obtain⟨hk,⟨L,o,hf,hn,ho,hd⟩,hr⟩:=hl;have hL:L∈X.fs:=hs L (by unfold Cd;rw[List.filterMap_cons,hf];exact dq);obtain⟨sl,e⟩:=I.base.slot L o ho (I.ok.OB L hL) hL λz=>I.ok.IF L z hL;exact⟨hk,⟨L,_,hf,hn,e,hd⟩,ih (λb hb=>hs b (by unfold Cd;rw[List.filterMap_cons,hf];exact cx _ hb)) hr⟩
 exact all X.outer (λ_ hb=>hb) I.ok.rJ
theorem Inv.stack (I:Inv X pins σ H s):s.heap.FunFrames X.base X.stack:=by
 rcases I.ok.Uu with e | ⟨e,hf⟩
 . rw[e];exact I.rJ
 . rw[e];obtain⟨m,hn,_⟩:=I.loc;refine .cons (by rw[I.ok.kind];decide) hf hn ?_ I.rJ;exact Heap.get?_none_of_le (cn I.ok.Ma I.ok.above)
theorem Inv.uI (I:Inv X pins σ H s):∀b∈Cd X.stack,b∈X.env.locals::X.fs:=λb hb=>by
 rcases I.ok.Uu with e | ⟨e,hf⟩
 . rw[e]at hb;exact cx _ hb
 . rw[e]at hb;unfold Cd at hb;rw[List.filterMap_cons,hf]at hb;exact hb
theorem Inv.Eg (I:Inv X pins σ H s):∀b∈Cd X.stack,H b=none:=λb hb=>by
 rcases List.mem_cons.mp (I.uI b hb)with e | hb
 . rw[e];exact I.free
 . obtain⟨_,o,ho,_⟩:=I.ok.rJ.mem hb;exact I.base.free b o ho (I.ok.OB b hb) λz=>I.ok.IF b z hb
theorem Inv.step {g':Array GenState}{d':Drawn}(I:Inv X pins σ H s)
   (Mb:∀b∈ch,(b∈X.ex∨X.s₀.heap.objs.size<=b)/\b≠X.env.locals/\(∀x c,X.env.cells.lookup x=some c->c≠b)/\∀p∈X.pn++pins,p.1≠b)
   (keep:∀b o,b≠X.env.locals->b∉X.fs->b∉ch->s.heap.get? b=some o->H b=none->h'.get? b=some o)
   (slot:∀b o,b≠X.env.locals->b∈X.fs->b∉ch->s.heap.get? b=some o->H b=none->∃sl,h'.get? b=some { o with slots:=sl }) (free:∀b o,b∉ch->s.heap.get? b=some o->H b=none->H' b=none)
   (there:∀b o,b∉ch->s.heap.get? b=some o->∃o',h'.get? b=some o')
   (tQ:∀b xs,H b=some (.tup xs)->H' b=some (.tup xs)) (rH:∀b o u,H b=some (.sP o u)->H' b=some (.sP o u)) (tR:∀b ps,H b=some (.ID ps)->∃more,H' b=some (.ID (ps++more)))
   (ns:∀m,s.heap.Ns X.env.locals m->h'.Ns X.env.locals m) (c7:pB X.prog X.w H' h') (hg:AllBare g'):
   Inv X pins σ H' { s with heap:=h',gens:=g',drawn:=d',toks:=t' }:=by
 have Uv:∀b o,X.s₀.heap.get? b=some o->b≠X.env.locals:=λb o e=>cv (bp (ag e) I.ok.above);have W3:∀b o,X.s₀.heap.get? b=some o->b∉X.ex->b∉ch:=λb o e hx hb=>by
   rcases(Mb b hb).1 with z | z
   . exact hx z
   . exact absurd (bp (ag e) z) (fw _)
 have cellK:∀x c,X.env.cells.lookup x=some c->∀v,s.heap.IsCell c v->h'.IsCell c v:=λx c e v ⟨o,ho,hd⟩=>by
   have Uw:c∉ch:=λz=>(Mb c z).2.2.1 x c e rfl
   by_cases hc:c∈X.fs
   . obtain⟨sl,q⟩:=slot c o (I.P1 x c e) hc Uw ho (I.kQ x c e);exact⟨_,q,hd⟩
   . exact⟨o,keep c o (I.P1 x c e) hc Uw ho (I.kQ x c e),hd⟩
 refine⟨I.ok,I.os,hg,⟨λb o e n hb hx=>?_,λb o e n hb hx=>?_,λb o e n hx=>?_,λb o e hx=>?_,λb xs e=>tQ b xs (I.base.tQ b xs e),λb o xs e=>rH b o xs (I.base.rH b o xs e),λb ps e=>?_⟩,?_,λx c e=>?_,?_,λx c e=>?_,λp hp=>?_,c7,I.len⟩
 . exact keep b o (Uv b o e) hb (W3 b o e hx) (I.base.keep b o e n hb hx) (I.base.free b o e n hx)
 . obtain⟨sl,e1⟩:=I.base.slot b o e n hb hx;obtain⟨sl',e2⟩:=slot b _ (Uv b o e) hb (W3 b o e hx) e1 (I.base.free b o e n hx);exact⟨sl',e2⟩
 . obtain⟨o',e1⟩:=I.base.there b o e hx;exact free b o' (W3 b o e hx) e1 (I.base.free b o e n hx)
 . obtain⟨o',e1⟩:=I.base.there b o e hx;exact there b o' (W3 b o e hx) e1
 . obtain⟨m1,e1⟩:=I.base.tR b ps e;obtain⟨m2,e2⟩:=tR b _ e1;exact⟨m1++m2,by rw[e2,Array.append_assoc]⟩
 . obtain⟨m,hn,hl⟩:=I.loc;refine⟨m,ns m hn,λi x v e1 e2 e3=>?_⟩;obtain⟨u,r,l⟩:=hl i x v e1 e2 e3;refine⟨u,r,?_⟩;rcases l with l | ⟨k,c,e,z⟩
   . exact .inl l
   . exact .inr ⟨k,c,e,cellK x c e _ z⟩
 . obtain⟨v,z⟩:=I.cell x c e;exact⟨v,cellK x c e v z⟩
 . obtain⟨m,⟨o,_,_,ho,_⟩,_⟩:=I.loc;exact free _ o (λz=>(Mb _ z).2.1 rfl) ho I.free
 . obtain⟨v,o,ho,hd⟩:=I.cell x c e;exact free c o (λz=>(Mb c z).2.2.1 x c e rfl) ho (I.kQ x c e)
 . obtain⟨e,n,ne,nf,d⟩:=I.pin p hp;have Uw:p.1∉ch:=λz=>(Mb p.1 z).2.2.2 p hp rfl;exact⟨keep p.1 p.2 ne nf Uw e n,free p.1 p.2 Uw e n,ne,nf,d⟩
theorem Inv.un (I:Inv X pins σ H s)(u:Un X.fs [] H H' s.heap h')(c7:pB X.prog X.w H' h'):Inv X pins σ H' { s with heap:=h',toks:=t' }:=by
 obtain⟨m,⟨o,es,ep,ho,r⟩,_⟩:=id I.loc;obtain⟨sl,hL⟩:=u.any ho I.free RR;exact I.step (g':=s.gens) (d':=s.drawn) (ch:=[]) (λ_ z=>nomatch z) (λb o _ hb _ e n=>u.keep b o e n hb RR) (λb o _ hb _ e n=>u.slot b o e n hb RR) (λb o _ e n=>u.free b o e n RR) (λb o _ e=>u.there b o e RR) u.tQ u.rH u.tR (λm' hm=>by
   obtain⟨o',es',ep',Cr,r'⟩:=hm;rw[ho]at Cr;cases Cr;exact⟨_,es',ep',hL,r'⟩) c7 I.bare
theorem Inv.call {g':Array GenState}{d':Drawn}(I:Inv X pins σ H s)(u:Un (Cd X.stack) ch H H' s.heap h')(c7:pB X.prog X.w H' h')(hg:AllBare g')
   (Mb:∀b∈ch,(b∈X.ex∨X.s₀.heap.objs.size<=b)/\b≠X.env.locals/\(∀x c,X.env.cells.lookup x=some c->c≠b)/\∀p∈X.pn++pins,p.1≠b):
   Inv X pins σ H' { s with heap:=h',gens:=g',drawn:=d',toks:=t' }:=by
 obtain⟨m,⟨o,es,ep,ho,r⟩,_⟩:=id I.loc;obtain⟨sl,hL⟩:=u.any ho I.free λz=>(Mb _ z).2.1 rfl;exact I.step (ch:=ch) Mb (λb o hL hb hc e n=>u.keep b o e n (λz=>(List.mem_cons.mp (I.uI b z)).elim hL hb) hc) (λb o _ _ hc e n=>u.any e n hc) (λb o hc e n=>u.free b o e n hc) (λb o hc e=>u.there b o e hc) u.tQ u.rH u.tR (λm' hm=>by
   obtain⟨o',es',ep',Cr,r'⟩:=hm;rw[ho]at Cr;cases Cr;exact⟨_,es',ep',hL,r'⟩) c7 hg
theorem Inv.turned (I:Inv X pins σ H s)(k:∀b o,b≠it->s.heap.get? b=some o->h'.get? b=some o)(hn:H it=none)(hL:it≠X.env.locals)
   (h1:it∈X.ex∨X.s₀.heap.objs.size<=it) (h2:∀x c,X.env.cells.lookup x=some c->c≠it) (h3:∀p∈X.pn++pins,p.1≠it):Inv X pins σ H { s with heap:=h',toks:=t' }:=by
 have nit:∀b u,H b=some u->b≠it:=λb u e z=>by rw[z,hn]at e;cases e
 refine I.step (g':=s.gens) (d':=s.drawn) (ch:=[it]) (λb hb=>?_) (λb o _ _ hc e _=>k b o (λz=>hc (by simp[z])) e) (λb o _ _ hc e _=>⟨o.slots,k b o (λz=>hc (by simp[z])) e⟩) (λ_ _ _ _ n=>n)
   (λb o hc e=>⟨o,k b o (λz=>hc (by simp[z])) e⟩) (λ_ _ e=>e) (λ_ _ _ e=>e) (λb ps e=>⟨#[],by rw[e];simp⟩) (λm hm=>?_) (λb u e=>?_) I.bare
 . have e:b=it:=by simpa using hb
   subst e;exact⟨h1,hL,h2,h3⟩
 . obtain⟨o,es,ep,ho,r⟩:=hm;exact⟨o,es,ep,k _ o (Ne.symm hL) ho,r⟩
 . refine(I.c7 b u e).pD (λc v hc q=>k c v ?_ q) (λ_ q=>q) λ_ _ q=>q;rcases hc with z | z
   . rw[z];exact nit b u e
   . exact nit c _ z
theorem Inv.tok (I:Inv X pins σ H s)(t:Nat):Inv X pins σ H { s with toks:=t }:=I.un (h':=s.heap) (t':=t) Un.refl I.c7
theorem Inv.kept (I:Inv X pins σ H s)(k:∀b u,s.heap.get? b=some u->h'.get? b=some u):Inv X pins σ H { s with heap:=h',toks:=t' }:=I.un (Un.kept k) (I.c7.kept k)
theorem Inv.laid {a:Addr}{o:HO}(I:Inv X pins σ H s)(k:∀b u,s.heap.get? b=some u->h'.get? b=some u)(hp:s.heap.objs.size<=a)(new:cO X.prog X.w (upd H a o) h' a o):
   Inv X pins σ (upd H a o) { s with heap:=h',toks:=t' }:=I.un (Un.laid k hp (I.c7.fresh hp)) (I.c7.laid k hp new)
theorem Inv.write {x e:Addr}{o:HO}(I:Inv X pins σ H s)(mu:Ur (H x))(he:e=x∨H e=some (.own x))(k:∀b u,b≠e->s.heap.get? b=some u->h'.get? b=some u)(SI:∃u,h'.get? e=some u)
   (new:cO X.prog X.w (upd H x o) h' x o):Inv X pins σ (upd H x o) { s with heap:=h',toks:=t' }:=I.un (Un.write mu he k SI) (I.c7.write mu he k SI new)
theorem Inv.ug {OC:List (Addr×Obj)}(I:Inv X pins σ H s)(h:∀p∈OC,s.heap.get? p.1=some p.2/\H p.1=none/\p.1≠X.env.locals/\p.1∉X.fs/\∀v,p.2.data≠.cell v):Inv X OC σ H s:=
 ⟨I.ok,I.os,I.bare,I.base,I.loc,I.cell,I.free,I.kQ,λp hp=>(da.mp hp).elim (λz=>I.pin p (lx _ z)) (h p),I.c7,I.len⟩
theorem AG (hN:N.Nodup){j:Nat}(a:N[i]?=some x)(b:N[j]?=some x):i=j:=by
 obtain⟨h1,e1⟩:=bc.mp a;obtain⟨h2,e2⟩:=bc.mp b;exact(List.getElem_inj hN).mp (e1.trans e2.symm)
theorem Gf {v:V}{Q:Unit->Shared->Prop}(I:Inv X pins σ H s)(hN:X.N.Nodup)(hi:X.N[i]?=some x)(hx:Loc X.env.scope x)(r:RelV v u)
   (h:∀s',Inv X pins (σ.set i (some v)) H s'->(∃a,Heap.SameBut a s.heap s'.heap/\(a=X.env.locals∨X.env.cells.lookup x=some a))->Q () s') (hf:X.fn x=true∨X.env.scope.names.lookup x=some .local:=by first | exact .inl rfl | exact .inr rfl | assumption):wpAny M A (storeName X.env x u) Q E s:=by
 obtain⟨m,hn,hl⟩:=id I.loc;have Yk:(X.env.scope.kind==.class||(X.env.scope.kind==.module&&X.env.locals !=X.env.globals))=false:=by rw[I.ok.kind];rfl
 have hiσ:i < σ.length:=by rw[I.len];exact(bc.mp hi).1
 have P1:=I.P1;have tracked:∀{a:Addr}{h':Heap},(∃o,s.heap.get? a=some o/\H a=none)->Heap.SameBut a s.heap h'->pB X.prog X.w H h':=λ{a h'} ha hs b ob e=>by
   obtain⟨_,_,hfree⟩:=ha;refine(I.c7 b ob e).pD (λc w' hc q=>(hs.2 c ?_).trans q) (λ_ q=>q) λ_ _ q=>q;rintro rfl;rcases hc with rfl | hc
   . rw[hfree]at e;cases e
   . rw[hfree]at hc;cases hc
 rcases hx with hk | hk
 . refine wpAny_storeName_local hk hn (λh' hn' hs=>?_) Yk;obtain⟨oL,_,_,hoL,_⟩:=id hn;refine h _ ⟨I.ok,I.os,I.bare,⟨λb o e n hb hx=>?_,λb o e n hb hx=>?_,I.base.free,λb o e hx=>?_,I.base.tQ,I.base.rH,I.base.tR⟩,⟨_,hn',λj y v' e1 e2 e3=>?_⟩,λy c e=>?_,I.free,I.kQ,λp hp=>?_,tracked ⟨oL,hoL,I.free⟩ hs,by simpa using I.len⟩ ⟨_,hs,.inl rfl⟩
   . exact(hs.2 b (cv (bp (ag e) I.ok.above))).trans (I.base.keep b o e n hb hx)
   . obtain⟨sl,e1⟩:=I.base.slot b o e n hb hx;exact⟨sl,(hs.2 b (cv (bp (ag e) I.ok.above))).trans e1⟩
   . obtain⟨o',e1⟩:=I.base.there b o e hx;exact⟨o',(hs.2 b (cv (bp (ag e) I.ok.above))).trans e1⟩
   . by_cases hj:j=i
     . subst hj;rw[hi]at e1;cases e1;rw[List.getElem?_set_self hiσ]at e2;cases e2;exact⟨u,r,.inl ⟨hk,by simp⟩⟩
     . rw[List.getElem?_set_ne (Ne.symm hj)]at e2;obtain⟨u',r',q⟩:=hl j y v' e1 e2 e3;refine⟨u',r',?_⟩;rcases q with ⟨k,e⟩ | ⟨k,c,e,z⟩
       . refine .inl ⟨k,?_⟩;have:y≠x:=λe=>hj (AG hN e1 (e ▸ hi));simp[this,e]
       . exact .inr ⟨k,c,e,z.sameBut hs (P1 y c e)⟩
   . obtain⟨w',z⟩:=I.cell y c e;exact⟨w',z.sameBut hs (P1 y c e)⟩
   . obtain⟨e,n,ne,nf,d⟩:=I.pin p hp;exact⟨(hs.2 p.1 ne).trans e,n,ne,nf,d⟩
 . have Yl:X.fn x=true:=by
     rcases hf with z | z
     . exact z
     . rw[z]at hk;cases hk
   obtain⟨c,hc⟩:=I.ok.has x (.inl hk);obtain⟨w',z⟩:=I.cell x c hc;refine wpAny_storeName_cell I.ok.kind hk hc z (λh' hc' hs=>?_);obtain⟨oc,hoc,hocd⟩:=id z;refine h { s with heap:=h' } ⟨I.ok,I.os,I.bare,⟨λb o e n hb hx=>?_,λb o e n hb hx=>?_,I.base.free,λb o e hx=>?_,I.base.tQ,I.base.rH,I.base.tR⟩,⟨m,hn.sameBut hs (Ne.symm (P1 x c hc)),λj y v' e1 e2 e3=>?_⟩,λy c' e=>?_,I.free,I.kQ,λp hp=>?_,tracked ⟨oc,hoc,I.kQ x c hc⟩ hs,by simpa using I.len⟩ ⟨c,hs,.inr hc⟩
   . exact(hs.2 b (cv (bp (ag e) (I.ok.SK x c Yl hc)))).trans (I.base.keep b o e n hb hx)
   . obtain⟨sl,e1⟩:=I.base.slot b o e n hb hx;exact⟨sl,(hs.2 b (cv (bp (ag e) (I.ok.SK x c Yl hc)))).trans e1⟩
   . obtain⟨o',e1⟩:=I.base.there b o e hx;exact⟨o',(hs.2 b (cv (bp (ag e) (I.ok.SK x c Yl hc)))).trans e1⟩
   . by_cases hj:j=i
     . subst hj;rw[hi]at e1;cases e1;rw[List.getElem?_set_self hiσ]at e2;cases e2;exact⟨u,r,.inr ⟨.inl hk,c,hc,hc'⟩⟩
     . rw[List.getElem?_set_ne (Ne.symm hj)]at e2;obtain⟨u',r',q⟩:=hl j y v' e1 e2 e3;refine⟨u',r',?_⟩;rcases q with q | ⟨k,c',e,z'⟩
       . exact .inl q
       . refine .inr ⟨k,c',e,z'.sameBut hs ?_⟩;rintro rfl;exact hj (AG hN e1 (I.ok.inj _ _ _ e hc ▸ hi))
   . by_cases hcc:c'=c
     . subst hcc;exact⟨_,hc'⟩
     . obtain⟨w2,z2⟩:=I.cell y c' e;exact⟨w2,z2.sameBut hs hcc⟩
   . obtain⟨e,n,ne,nf,d⟩:=I.pin p hp;refine⟨(hs.2 p.1 ?_).trans e,n,ne,nf,d⟩;intro q;rw[q,hoc]at e;have q':oc=p.2:=Option.some.inj e;exact d w' (by rw[<- q'];exact hocd)
theorem AH {v:V}{Q:Unit->Shared->Prop}(I:Inv X pins σ H s)(hN:X.N.Nodup)(hi:X.N[i]?=some x)(hx:Loc X.env.scope x)(r:RelV v u)
   (h:∀s',Inv X pins (σ.set i (some v)) H s'->Q () s') (hf:X.fn x=true∨X.env.scope.names.lookup x=some .local:=by first | exact .inl rfl | exact .inr rfl | assumption):wpAny M A (storeName X.env x u) Q E s:=
 Gf I hN hi hx r (λs' I' _=>h s' I') hf
theorem Inv.Ux (I:Inv X pins σ H s)(ho:s'.os=s.os)(u:Un (Cd X.stack) ch H H' s.heap s'.heap)(c7:pB X.prog X.w H' s'.heap)(hg:AllBare s'.gens)
   (Mb:∀b∈ch,(b∈X.ex∨X.s₀.heap.objs.size<=b)/\b≠X.env.locals/\(∀x c,X.env.cells.lookup x=some c->c≠b)/\∀p∈X.pn++pins,p.1≠b):Inv X pins σ H' s':=by
 obtain⟨h',g',d',t',o'⟩:=s';have e:o'=s.os:=ho;subst e;exact I.call (g':=g') (t':=t') (d':=d') u c7 hg Mb
end
abbrev XK:=Value->Option Addr->Hp->Prop
abbrev St:=List (Option V)
abbrev VK:=V->Hp->Prop
abbrev TE:=St->Hp->VK->Prop
abbrev TT:=St->Hp->(Bool->Hp->Prop)->Prop
abbrev TA:=St->Hp->(List V->Hp->Prop)->Prop
structure Ends where
 nx:St->Hp->Prop
 rt:VK
 bk:St->Hp->Prop:=λ_ _=>False
 ct:St->Hp->Prop:=λ_ _=>False
abbrev TS:=Ends->St->Hp->Prop
def EP (X:Cx)(pins:List (Addr×Obj))(σ:St)(Q:VK)(u:Value)(s':Shared):Prop:=∃v H',Inv X pins σ H' s'/\RelV v u/\Q v H'
def TP (X:Cx)(pins:List (Addr×Obj))(σ:St)(Q:Bool->Hp->Prop)(b:Bool)(s':Shared):Prop:=∃H',Inv X pins σ H' s'/\Q b H'
def AP (X:Cx)(pins:List (Addr×Obj))(σ:St)(Q:List V->Hp->Prop)(us:List Value)(s':Shared):Prop:=∃vs H',Inv X pins σ H' s'/\Vals vs us/\Q vs H'
def SP (X:Cx)(pins:List (Addr×Obj))(D:Ends)(f:Flow)(s':Shared):Prop:=
 match f with
 | .next=>∃σ' H',Inv X pins σ' H' s'/\D.nx σ' H'
 | .brk=>∃σ' H',Inv X pins σ' H' s'/\D.bk σ' H'
 | .cont=>∃σ' H',Inv X pins σ' H' s'/\D.ct σ' H'
 | .ret u=>∃v σ' H',Inv X pins σ' H' s'/\RelV v u/\D.rt v H'
def PE (X:Cx)(e:Expr)(t:TE):Prop:=
 ∀(pins:List (Addr×Obj)) (s:Shared) (σ:St) (H:Hp) (Q:VK),Inv X pins σ H s->t σ H Q->wpAny (model X.prog X.w) X.A (eval e X.env) (EP X pins σ Q) X.xe s
def PT (X:Cx)(e:Expr)(t:TT):Prop:=
 ∀(pins:List (Addr×Obj)) (s:Shared) (σ:St) (H:Hp) (Q:Bool->Hp->Prop),Inv X pins σ H s->t σ H Q->wpAny (model X.prog X.w) X.A (isTrue e X.env (eval e X.env)) (TP X pins σ Q) X.xe s
def PW (X:Cx)(e:Expr)(t:TT):Prop:=
 ∀(whole:Sem Value) (pins:List (Addr×Obj)) (s:Shared) (σ:St) (H:Hp) (Q:Bool->Hp->Prop),Inv X pins σ H s->t σ H Q->wpAny (model X.prog X.w) X.A (isTrue e X.env whole) (TP X pins σ Q) X.xe s
theorem PW.pt {X:Cx}{t:TT}(h:PW X e t):PT X e t:=h _
def PA (X:Cx)(es:List Expr)(t:TA):Prop:=
 ∀(pos:Pos) (pins:List (Addr×Obj)) (s:Shared) (σ:St) (H:Hp) (Q:List V->Hp->Prop),Inv X pins σ H s->t σ H Q->wpAny (model X.prog X.w) X.A (spliced (backTo pos (starEach es X.env))) (AP X pins σ Q) X.xe s
def PS (X:Cx)(st:Stmt)(t:TS):Prop:=
 ∀(pins:List (Addr×Obj)) (s:Shared) (σ:St) (H:Hp) (D:Ends),Inv X pins σ H s->t D σ H->wpAny (model X.prog X.w) X.A (exec st X.env) (SP X pins D) X.xe s
def Ce (X:Cx)(st:List Stmt)(t:TS):Prop:=
 ∀(pins:List (Addr×Obj)) (s:Shared) (σ:St) (H:Hp) (D:Ends),Inv X pins σ H s->t D σ H->wpAny (model X.prog X.w) X.A (execs st X.env) (SP X pins D) X.xe s
theorem bI {α:Type}{t:Sem α}{Q Q':α->Shared->Prop}(h:wpAny M A t Q E s)(hQ:∀a s,Q a s->Q' a s):wpAny M A t Q' E s:=Fu h hQ λ_ _ x=>x
variable{X:Cx}{D:Ends}{σ:St}{ta te:TE}{tb:TS}{tc:TT}
section
def Gg (i:Nat):TE:=λσ H Q=>∃v,σ[i]?=some (some v)/\Q v H
def tC (v:V):TE:=λ_ H Q=>Q v H
theorem P4 (hN:X.N[i]?=some x)(hv:SJ X.env.scope x)(hd:(x==("__debug__":Str))=false:=by decide)(Cs:(x==("__classdict__":Str))=false:=by decide):PE X (.Name x pos) (Gg i):=by
 intro pins s σ H Q I h;obtain⟨v,e,h⟩:=h;obtain⟨m,hn,hl⟩:=I.loc;obtain⟨u,r,l⟩:=hl i x v hN e hv;have fin:EP X pins σ Q u s:=⟨v,H,I,r,h⟩
 rcases l with ⟨hk,hm⟩ | ⟨hk,c,hc,hcell⟩
 . exact wpAny_Name (wpAny_loadName_local I.ok.kind hk hn hm fin) hd
 . rcases hk with hk | hk
   . exact wpAny_Name (wpAny_loadName_cell I.ok.kind hk hc hcell fin) hd
   . exact wpAny_Name (wpAny_loadName_free I.ok.kind hk hc hcell fin Cs) hd
theorem Ct {i j pos}:PE X (.Constant (.int i) j pos) (tC (.int i)):=λ_ _ _ H _ I h=>wpAny_Constant_int ⟨.int i,H,I.tok _,⟨_,rfl⟩,h⟩
theorem Uy {b j pos}:PE X (.Constant (.bool b) j pos) (tC (.bl b)):=λ_ _ _ H _ I h=>Constant_bool ⟨.bl b,H,I,rfl,h⟩
theorem P5 {j pos}:PE X (.Constant .none j pos) (tC .bO):=λ_ _ _ H _ I h=>Constant_none ⟨.bO,H,I,rfl,h⟩
theorem P6 {x j pos}:PE X (.Constant (.str x) j pos) (tC (.str x)):=λ_ _ _ H _ I h=>Calls.Constant_str ⟨.str x,H,I.tok _,⟨_,rfl⟩,h⟩
def Gl (X:Cx)(x:Str):Prop:=X.env.kindOf x=some .globalImplicit
theorem uh (I:Inv X pins σ H s)(hg:Gl X x)(hm:X.mg x=some u)(h:Q u s)
   (hd:(x==("__debug__":Str))=false:=by decide):wpAny (model X.prog X.w) X.A (eval (.Name x pos) X.env) Q E s:=
 Calls.Name_function_global I.ok.kind hg (Calls.loadGlobal_global (by rw[I.ok.glob];exact I.mod.glob.keeps I.bk) hm h) hd
theorem fV (I:Inv X pins σ H s)(hg:Gl X x)(hm:X.mg x=none)(hv:bootBuiltins x=some u)(h:Q u s)
   (hn:x≠"__name__":=by decide) (hd:(x==("__debug__":Str))=false:=by decide):wpAny (model X.prog X.w) X.A (eval (.Name x pos) X.env) Q E s:=by
 obtain⟨mb,h1,h2⟩:=I.mod.blt;exact Calls.Name_function_global I.ok.kind hg (Calls.loadGlobal_builtin (by rw[I.ok.glob];exact I.mod.glob.keeps I.bk) hm (by rw[I.ok.blt];exact h1.keeps I.bk) ((h2 x hn).trans hv) h) hd
theorem Mt {v:V}(hg:Gl X x)(hm:X.mg x=some u)(r:RelV v u)(hd:(x==("__debug__":Str))=false:=by decide):PE X (.Name x pos) (tC v):=
 λ_ _ _ H _ I h=>uh I hg hm ⟨v,H,I,r,h⟩ hd
theorem Mu {v:V}(hg:Gl X x)(hm:X.mg x=none)(hv:bootBuiltins x=some u)(r:RelV v u)(hn:x≠"__name__":=by decide)(hd:(x==("__debug__":Str))=false:=by decide):PE X (.Name x pos) (tC v):=
 λ_ _ _ H _ I h=>fV I hg hm hv ⟨v,H,I,r,h⟩ hn hd
variable {a b:Expr}{tb:TE}
def tB (t:TE):TT:=λσ H Q=>t σ H λx H1=>∃c,x=.bl c/\Q c H1
theorem P7 {t:TE}(h:PE X e t)(he:∀whole,isTrue e X.env whole=(do let v <- whole;standAt e.pos;holding [v] (truthy v)):=by intro _;rfl):PT X e (tB t):=by
 intro pins s σ H Q I hw;refine isTrue_plain (bI (h pins s σ H _ I hw) λv s1 ⟨x,H1,I1,r1,q1⟩=>?_) (he _);obtain⟨d,rfl,q⟩:=q1;cases r1;exact Hc ⟨H1,I1,q⟩
variable {tA Mv:TT}{rest:List Expr}
def P8 (t u:TT):TT:=λσ H Q=>t σ H λc H1=>if c=true then u σ H1 Q else Q false H1
def Ym (t u:TT):TT:=λσ H Q=>t σ H λc H1=>if c=true then Q true H1 else u σ H1 Q
def P9 (t:TT):TT:=λσ H Q=>t σ H λc H1=>Q (!c) H1
theorem pw_and1 (ha:PT X a tA):PW X (.BoolOp .And [a] pos) tA:=by
 intro wh pins s σ H Q I h;refine isTrue_and (bI (ha pins s σ H Q I h) λc s1 e=>?_);cases c with
 | true=>exact isTrue_and_nil e
 | false=>exact e
theorem pw_or1 (ha:PT X a tA):PW X (.BoolOp .Or [a] pos) tA:=by
 intro wh pins s σ H Q I h;refine isTrue_or (bI (ha pins s σ H Q I h) λc s1 e=>?_);cases c with
 | false=>exact isTrue_or_nil e
 | true=>exact e
theorem pw_and (ha:PT X a tA)(hb:PW X (.BoolOp .And (b::rest) pos) Mv):PW X (.BoolOp .And (a::b::rest) pos) (P8 tA Mv):=by
 intro wh pins s σ H Q I h;refine isTrue_and (bI (ha pins s σ H _ I h) λc s1 ⟨H1,I1,q1⟩=>?_);cases c with
 | true=>exact hb wh pins s1 σ H1 Q I1 q1
 | false=>exact⟨H1,I1,q1⟩
theorem pw_or (ha:PT X a tA)(hb:PW X (.BoolOp .Or (b::rest) pos) Mv):PW X (.BoolOp .Or (a::b::rest) pos) (Ym tA Mv):=by
 intro wh pins s σ H Q I h;refine isTrue_or (bI (ha pins s σ H _ I h) λc s1 ⟨H1,I1,q1⟩=>?_);cases c with
 | true=>exact⟨H1,I1,q1⟩
 | false=>exact hb wh pins s1 σ H1 Q I1 q1
theorem Qa (ha:PT X a tA):PT X (.UnaryOp .Not a pos) (P9 tA):=by
 intro pins s σ H Q I h;exact isTrue_not (ha pins s σ H (λc H1=>Q (!c) H1) I h)
def Eh (ta tb:TE):TE:=λσ H Q=>ta σ H λx H1=>∃c,x=.bl c/\if c=true then tb σ H1 Q else Q (.bl false) H1
def Mw (ta tb:TE):TE:=λσ H Q=>ta σ H λx H1=>∃c,x=.bl c/\if c=true then Q (.bl true) H1 else tb σ H1 Q
def Ei (ta:TE):TE:=λσ H Q=>ta σ H λx H1=>∃c,x=.bl c/\Q (.bl (!c)) H1
theorem Qc {op}{t:TE}(h:PE X a t):PE X (.BoolOp op [a] pos) t:=λpins s σ H Q I hw=>BoolOp_one (h pins s σ H Q I hw)
theorem Qd (ha:PE X a ta)(hb:PE X (.BoolOp .And (b::rest) pos) tb):PE X (.BoolOp .And (a::b::rest) pos) (Eh ta tb):=by
 intro pins s σ H Q I h;refine BoolOp_and (bI (ha pins s σ H _ I h) λv s1 ⟨x,H1,I1,r1,q1⟩=>?_);obtain⟨c,rfl,q1⟩:=q1;cases r1;refine Hc ?_;cases c with
 | true=>exact hb pins s1 σ H1 Q I1 q1
 | false=>exact⟨.bl false,H1,I1,rfl,q1⟩
theorem Uz (ha:PE X a ta)(hb:PE X (.BoolOp .Or (b::rest) pos) tb):PE X (.BoolOp .Or (a::b::rest) pos) (Mw ta tb):=by
 intro pins s σ H Q I h;refine BoolOp_or (bI (ha pins s σ H _ I h) λv s1 ⟨x,H1,I1,r1,q1⟩=>?_);obtain⟨c,rfl,q1⟩:=q1;cases r1;refine Hc ?_;cases c with
 | false=>exact hb pins s1 σ H1 Q I1 q1
 | true=>exact⟨.bl true,H1,I1,rfl,q1⟩
theorem Qe (ha:PE X a ta):PE X (.UnaryOp .Not a pos) (Ei ta):=by
 intro pins s σ H Q I h;refine UnaryOp_ (bI (ha pins s σ H _ I h) λv s1 ⟨x,H1,I1,r1,q1⟩=>?_);obtain⟨c,rfl,q1⟩:=q1;cases r1;exact not_of (Hc ⟨.bl (!c),H1,I1,rfl,q1⟩)
def Yn (t:TT)(ta tb:TE):TE:=λσ H Q=>t σ H λc H1=>if c=true then ta σ H1 Q else tb σ H1 Q
theorem IG {c:Expr}(hc:PT X c tA)(ha:PE X a ta)(hb:PE X b tb):PE X (.IfExp c a b pos) (Yn tA ta tb):=by
 intro pins s σ H Q I h;refine wpAny_IfExp (bI (hc pins s σ H _ I h) λd s1 ⟨H1,I1,q1⟩=>?_);cases d with
 | true=>exact ha pins s1 σ H1 Q I1 q1
 | false=>exact hb pins s1 σ H1 Q I1 q1
end
def aR (K:Frag)(H:Hp)(a:Addr)(xs:List V):Prop:=
 Rd H a (.lst xs)∨
   ∃(o:Obj) (bu:Array Value) (n:Nat),K.lookup a=some o/\o.cls=.type "list"/\o.dict=none/\o.data=.seq bu n/\bu.size<=sizeLine/\Vals xs bu.toList
def wK (K:Frag)(H:Hp)(a:Addr)(xs:List V):Prop:=
 Rd H a (.tup xs)∨
   ∃(o:Obj) (bu:Array Value) (n:Nat),K.lookup a=some o/\o.cls=.type "tuple"/\o.data=.seq bu n/\bu.size<=sizeLine/\Vals xs bu.toList
def AI:Value->Option V
 | .none=>some .bO
 | .bool b=>some (.bl b)
 | .int i _=>some (.int i)
 | .str x _=>some (.str x)
 | .bytes b _=>some (.Ef b)
 | .float b _=>some (.PY b)
 | .ref a=>some (.ref a)
 | .type n=>some (.ty n)
 | _=>none
theorem RelV.abs {x:V}(r:RelV x u):AI u=some x:=by
 cases x with
 | bO=>cases r;rfl
 | bl _=>cases r;rfl
 | int _=>obtain⟨t,rfl⟩:=r;rfl
 | str _=>obtain⟨t,rfl⟩:=r;rfl
 | Ef _=>obtain⟨t,rfl⟩:=r;rfl
 | PY _=>obtain⟨t,rfl⟩:=r;rfl
 | ref _=>cases r;rfl
 | ty _=>cases r;rfl
theorem RelV.inj {x y:V}(r:RelV x u)(q:RelV y u):x=y:=Option.some.inj (r.abs.symm.trans q.abs)
theorem Vals.inj {xs ys:List V}{us:List Value}(h:Vals xs us):Vals ys us->xs=ys:=by
 induction h generalizing ys with
 | nil=>intro q;cases q;rfl
 | cons r t ih=>
  intro q;cases q with
  | cons r' t'=>rw[r.inj r',ih t']
section
variable {a:Addr}{ys:List V}
theorem aR.of {K:Frag}(h:H a=some (.lst xs)):aR K H a xs:=.inl (.inl h)
theorem wK.of {K:Frag}(h:H a=some (.tup xs)):wK K H a xs:=.inl (.inl h)
theorem Inv.list (I:Inv X pins σ H s)(h:aR X.K H a xs):∃bu:List Value,Vals xs bu/\PlainL s.heap a bu.toArray/\xs.length<=sizeLine:=by
 rcases h with h | ⟨o,bu,n,hk,hc,hd,hs,hz,r⟩
 . obtain⟨z,bu,n,r,e⟩:=h.ok I.c7;exact⟨bu,r,⟨_,n,e,rfl,rfl,rfl⟩,z⟩
 . refine⟨bu.toList,r,⟨o,n,I.qd a o hk,hc,hd,by simpa using hs⟩,?_⟩;have e:=r.length;simp only[dC]at e;omega
theorem Inv.tuple (I:Inv X pins σ H s)(h:wK X.K H a xs):∃bu:List Value,Vals xs bu/\IsTup s.heap a bu.toArray/\xs.length<=sizeLine:=by
 rcases h with h | ⟨o,bu,n,hk,hc,hs,hz,r⟩
 . obtain⟨z,bu,r,p⟩:=h.ok I.c7;exact⟨bu,r,p,z⟩
 . refine⟨bu.toList,r,⟨o,I.qd a o hk,hc,n,by simpa using hs⟩,?_⟩;have e:=r.length;simp only[dC]at e;omega
theorem Inv.lJ (I:Inv X pins σ H s)(h:aR X.K H a xs)(h':aR X.K H a ys):xs=ys:=by
 obtain⟨bu,r,⟨o,n,e,_,_,d⟩,_⟩:=I.list h;obtain⟨its',r',⟨o',n',e',_,_,d'⟩,_⟩:=I.list h';rw[e]at e';cases e';rw[d]at d';injection d' with d1 _;have:bu=its':=by simpa using congrArg Array.toList d1
 subst this;exact r.inj r'
end
abbrev Cx.wM (X:Cx)(E:Value->Shared->Prop):Cx:={ X with xe:=E }
abbrev Cx.Mc (X:Cx):Cx:=X.wM λ_ _=>False
theorem Cx.Ok.wM (ok:X.Ok)(E:Value->Shared->Prop):(X.wM E).Ok:=
 ⟨ok.mod,ok.kind,ok.glob,ok.blt,ok.above,ok.inj,ok.has,ok.SK,ok.hd,ok.frames,ok.Uu,ok.Yi,ok.bs,ok.Ma,ok.Ge,ok.IF,ok.rJ,ok.OB⟩
theorem Cx.Ok.lK (ok:(X.wM E).Ok):X.Ok:=
 ⟨ok.mod,ok.kind,ok.glob,ok.blt,ok.above,ok.inj,ok.has,ok.SK,ok.hd,ok.frames,ok.Uu,ok.Yi,ok.bs,ok.Ma,ok.Ge,ok.IF,ok.rJ,ok.OB⟩
theorem Inv.wM (I:Inv X pins σ H s)(E:Value->Shared->Prop):Inv (X.wM E) pins σ H s:=⟨I.ok.wM E,I.os,I.bare,I.base,I.loc,I.cell,I.free,I.kQ,I.pin,I.c7,I.len⟩
theorem Inv.lK (I:Inv (X.wM E) pins σ H s):Inv X pins σ H s:=⟨I.ok.lK,I.os,I.bare,I.base,I.loc,I.cell,I.free,I.kQ,I.pin,I.c7,I.len⟩
theorem SP.lK {f:Flow}(h:SP (X.wM E) pins D f s'):SP X pins D f s':=by
 cases f with
 | next=>obtain⟨σ',H',I,q⟩:=h;exact⟨σ',H',I.lK,q⟩
 | brk=>obtain⟨σ',H',I,q⟩:=h;exact⟨σ',H',I.lK,q⟩
 | cont=>obtain⟨σ',H',I,q⟩:=h;exact⟨σ',H',I.lK,q⟩
 | ret u=>obtain⟨v,σ',H',I,r,q⟩:=h;exact⟨v,σ',H',I.lK,r,q⟩
theorem Ce.Mc {st:List Stmt}{t:TS}(h:Ce X.Mc st t):Ce X st t:=λpins s σ H D I hw=>
 Fu (h pins s σ H D (I.wM _) hw) (λ_ _ q=>q.lK) λ_ _ z=>False.elim z
section
variable {st:Stmt}{rest:List Stmt}{t u:TS}
def II:TS:=λD σ H=>D.nx σ H
def Qf (t u:TS):TS:=λD σ H=>t { D with nx:=u D } σ H
theorem Mx:Ce X [] II:=λ_ _ σ H _ I h=>wpAny_execs_nil ⟨σ,H,I,h⟩
theorem IJ (h1:PS X st t)(h2:Ce X rest u):Ce X (st::rest) (Qf t u):=by
 intro pins s σ H D I h;refine wpAny_execs_cons (bI (h1 pins s σ H { D with nx:=u D } I h) λf s1 q=>?_);cases f with
 | next=>
   obtain⟨σ',H',I',q⟩:=q;exact h2 pins s1 σ' H' D I' q
 | ret v=>exact q
 | brk=>exact q
 | cont=>exact q
theorem My (h1:PS X st t):Ce X [st] t:=by
 intro pins s σ H D I h;refine wpAny_execs_cons (bI (h1 pins s σ H D I h) λf s1 q=>?_);cases f with
 | next=>exact wpAny_execs_nil q
 | ret v=>exact q
 | brk=>exact q
 | cont=>exact q
theorem Inv.quiet (I:Inv X pins σ H s):interactive X.env=false:=by simp[interactive,I.ok.kind]
def IK (te:TE):TS:=λD σ H=>te σ H λ_ H1=>D.nx σ H1
theorem Mz (he:PE X e te)(hs:swapsWith e none pos.line X.env=pure false:=by rfl):PS X (.Expr e pos) (IK te):=by
 intro pins s σ H D I h;exact wpAny_Expr_any (bI (he pins s σ H _ I h) λv s1 ⟨x,H1,I1,r1,q1⟩=>⟨σ,H1,I1,q1⟩) I.quiet hs
def Qg (te:TE):TS:=λD σ H=>te σ H D.rt
theorem Qh (he:PE X e te):PS X (.Return (some e) pos) (Qg te):=by
 intro pins s σ H D I h;exact wpAny_Return_some (bI (he pins s σ H _ I h) λv s1 ⟨x,H1,I1,r1,q1⟩=>⟨x,σ,H1,I1,r1,q1⟩)
def UA:TS:=λD _ H=>D.rt .bO H
def Qi (c:TT)(t u:TS):TS:=λD σ H=>c σ H λb H1=>if b=true then t D σ H1 else u D σ H1
theorem UB {c:Expr}{a b:List Stmt}(hc:PT X c tc)(ha:Ce X a t)(hb:Ce X b u):PS X (.If c a b pos) (Qi tc t u):=by
 intro pins s σ H D I h;refine wpAny_If (bI (hc pins s σ H _ I h) λd s1 ⟨H1,I1,q1⟩=>?_);cases d with
 | true=>exact ha pins s1 σ H1 D I1 q1
 | false=>exact hb pins s1 σ H1 D I1 q1
def Cu:TS:=λ_ _ _=>False
theorem IL:PS X st Cu:=λ_ _ _ _ _ _ h=>h.elim
end
abbrev TG:=V->St->Hp->(St->Hp->Prop)->Prop
abbrev Ay:=List V->St->Hp->(St->Hp->Prop)->Prop
def PG (X:Cx)(target:Expr)(t:TG):Prop:=
 ∀(pins:List (Addr×Obj)) (s:Shared) (σ:St) (H:Hp) (v:V) (u:Value) (Q:St->Hp->Prop),Inv X pins σ H s->RelV v u->t v σ H Q->
   wpAny (model X.prog X.w) X.A (assign target X.env u) (λ_ s'=>∃σ' H',Inv X pins σ' H' s'/\Q σ' H') X.xe s
def UC (X:Cx)(ts:List Expr)(t:Ay):Prop:=
 ∀(pins:List (Addr×Obj)) (s:Shared) (σ:St) (H:Hp) (vs:List V) (us:List Value) (Q:St->Hp->Prop),Inv X pins σ H s->Vals vs us->t vs σ H Q->
   wpAny (model X.prog X.w) X.A (assignInOrder ((assignEach ts X.env).map (·.2)) us) (λ_ s'=>∃σ' H',Inv X pins σ' H' s'/\Q σ' H') X.xe s
abbrev MA:=V->V->V->Hp->(Hp->Prop)->Prop
def Qj (X:Cx)(t:MA):Prop:=
 ∀(pins:List (Addr×Obj)) (s:Shared) (σ:St) (H:Hp) (o i v:V) (ov iv u:Value) (Q:Hp->Prop),Inv X pins σ H s->RelV o ov->RelV i iv->RelV v u->t o i v H Q->
   wpAny (model X.prog X.w) X.A (setItem ov iv u) (λ_ s'=>∃H',Inv X pins σ H' s'/\Q H') X.xe s
def cQ (i:Nat):TG:=λv σ H Q=>Q (σ.set i (some v)) H
theorem ze (hN:X.N.Nodup)(hi:X.N[i]?=some x)(hx:Loc X.env.scope x)(hf:X.fn x=true∨X.env.scope.names.lookup x=some .local:=by first | exact .inl rfl | exact .inr rfl | assumption):PG X (.Name x pos) (cQ i):=by
 intro pins s σ H v u Q I r h;exact wpAny_assign_Name (AH I hN hi hx r (λs' I'=>⟨_,H,I',h⟩) hf)
def wN:Ay:=λvs σ H Q=>vs=[]/\Q σ H
def iy (t:TG)(u:Ay):Ay:=λvs σ H Q=>∃v r,vs=v::r/\t v σ H λσ' H'=>u r σ' H' Q
theorem MB:UC X [] wN:=by
 intro pins s σ H vs us Q I r h;obtain⟨e,h⟩:=h;subst e;cases r;exact assignInOrder_nil ⟨σ,H,I,h⟩
theorem IM {t:TG}{u:Ay}(h1:PG X e t)(h2:UC X es u)
   (hs:(assignEach (e::es) X.env).map (·.2)=assign e X.env::(assignEach es X.env).map (·.2):=by rfl):UC X (e::es) (iy t u):=by
 intro pins s σ H vs us Q I r h;obtain⟨v,vr,e1,h⟩:=h;subst e1;cases r with
 | cons r rr=>
   rw[hs];refine assignInOrder_cons (bI (h1 pins s σ H _ _ _ I r h) λ_ s1 ⟨σ1,H1,I1,q1⟩=>?_);exact h2 pins s1 σ1 H1 _ _ Q I1 rr q1
def Yo (K:Frag)(n:Nat)(t:Ay):TG:=λv σ H Q=>∃a xs,v=.ref a/\wK K H a xs/\xs.length=n/\t xs σ H Q
theorem Qk {k:Nat}{t:Ay}(hc:X.calm=true)(h:UC X es t)
   (hn:(assignEach es X.env).length=n:=by rfl) (Cv:(assignEach es X.env).findIdx? (·.1)=none:=by rfl):PG X (.Tuple es k pos) (Yo X.K n t):=by
 intro pins s σ H v u Q I r hw;obtain⟨a,xs,e1,hq,hl,hw⟩:=hw;subst e1;cases r;obtain⟨bu,rv,ht,hz⟩:=I.tuple hq;refine assign_Tuple_tuple (I.ok.hd hc) ht (by simp[hn,<- hl,rv.length]) Cv λh' hx=>?_;have I1:Inv X pins σ H { s with heap:=h' }:=I.kept (t':=s.toks) λb o e=>hx b o (cv (ag e)) e;exact h pins _ σ H xs _ Q I1 (by simpa using rv) hw
def Ql (to ti:TE)(t:MA):TG:=λv σ H Q=>to σ H λo H1=>ti σ H1 λi H2=>t o i v H2 λH3=>Q σ H3
theorem Qm {o i:Expr}{to ti:TE}{t:MA}(ho:PE X o to)(hi:PE X i ti)(hs:Qj X t)
   (ha:∀v,assign (.Subscript o i pos) X.env v=(do
     let ov <- holding [v] (eval o X.env)
     let iv <- holding [v,ov] (eval i X.env)
     standAt pos
     holding [v,ov,iv] (setItem ov iv v)
     release [v,ov,iv] []):=by intro _;rfl):PG X (.Subscript o i pos) (Ql to ti t):=by
 intro pins s σ H v u Q I r h;rw[ha];refine B1 (Fs (bI (ho pins s σ H _ I h) λov s1 ⟨x,H1,I1,r1,q1⟩=>?_));refine B1 (Fs (bI (hi pins s1 σ H1 _ I1 q1) λiv s2 ⟨y,H2,I2,r2,q2⟩=>?_));refine B1 (Hm (B1 (Fs (bI (hs pins s2 σ H2 x y v ov iv u _ I2 r1 r2 r q2) λ_ s3 ⟨H3,I3,q3⟩=>?_))));exact wpAny_release ⟨σ,H3,I3,q3⟩
def AJ (te:TE)(g:TG):TS:=λD σ H=>te σ H λx H1=>g x σ H1 D.nx
theorem Qn {g:TG}(he:PE X e te)(hg:PG X tg g)(hs:swapsWithSole [tg] e pos.line X.env=pure false:=by rfl)(hw:swappedStores [tg] e X.env=pure none:=by rfl)
   (h1:(assignEach [tg] X.env).map (·.2)=[assign tg X.env]:=by rfl):PS X (.Assign [tg] e pos) (AJ te g):=by
 intro pins s σ H D I h;refine wpAny_Assign_stores (bI (he pins s σ H _ I h) λv s1 ⟨x,H1,I1,r1,q1⟩=>?_) hs hw;rw[h1];exact bI (hg pins s1 σ H1 x v _ I1 r1 q1) λ_ s2 q=>q
theorem Qo (hN:X.N.Nodup)(hi:X.N[i]?=some x)(hx:Loc X.env.scope x)(he:PE X e te)(hs:swapsWith e (some (.Name x pos')) pos.line X.env=pure false:=by rfl)(hf:X.fn x=true∨X.env.scope.names.lookup x=some .local:=by first | exact .inl rfl | exact .inr rfl | assumption):
   PS X (.Assign [.Name x pos'] e pos) (AJ te (cQ i)):=by
 intro pins s σ H D I h;refine wpAny_Assign_Name (bI (he pins s σ H _ I h) λv s1 ⟨y,H1,I1,r1,q1⟩=>?_) hs;exact AH I1 hN hi hx r1 (λs2 I2=>⟨_,H1,I2,q1⟩) hf
def Cw (c:TT)(tb:TS):TS:=λD σ H=>∃W:Nat->St->Hp->Prop,(∃m,W m σ H)/\∀m σ H,W m σ H->
 c σ H λb H1=>if b=true then ∃N:St->Hp->Prop,(∀σ' H',N σ' H'->∃m',m' < m/\W m' σ' H')/\tb { D with nx:=N,ct:=N,bk:=D.nx } σ H1 else D.nx σ H1
theorem IP {c:Expr}(hp:PassesOwn (model X.prog X.w) X.A X.env X.xe)(hc:PT X c tc)(hb:Ce X body tb):PS X (.While c body [] pos) (Cw tc tb):=by
 intro pins s σ H D I h;obtain⟨W,⟨m0,w0⟩,turn⟩:=h;refine wpAny_While (codeAny_whileLoop (λn s'=>∃σ' H',Inv X pins σ' H' s'/\W n σ' H') ?_ m0 ⟨σ,H,I,w0⟩);rintro n s1 ⟨σ1,H1,I1,w1⟩;refine Kb hp (bI (hc pins s1 σ1 H1 _ I1 (turn n σ1 H1 w1)) λb s2 ⟨H2,I2,q2⟩=>?_);cases b with
 | true=>
   obtain⟨N,hN,q2⟩:=q2;rw[Fh rfl];refine Kb hp (bI (hb pins s2 σ1 H2 _ I2 q2) λf s3 q3=>?_);cases f with
   | next=>
     obtain⟨σ3,H3,I3,n3⟩:=q3;obtain⟨m',hm,w3⟩:=hN σ3 H3 n3;exact⟨m',hm,σ3,H3,I3,w3⟩
   | cont=>
     obtain⟨σ3,H3,I3,n3⟩:=q3;obtain⟨m',hm,w3⟩:=hN σ3 H3 n3;exact⟨m',hm,σ3,H3,I3,w3⟩
   | brk=>exact q3
   | ret v=>exact q3
 | false=>
   rw[Ee dr];exact wpAny_execs_nil ⟨σ1,H2,I2,q2⟩
structure It where
 go:Nat->Hp->Prop
 Me:Nat->Hp->V->Hp->Prop
 stop:Nat->Hp->Prop
def lN (X:Cx)(pins:List (Addr×Obj))(H:Hp)(b:Addr):Prop:=
 H b=none/\b≠X.env.locals/\b∉X.fs/\(b∈X.ex∨X.s₀.heap.objs.size<=b)/\(∀x c,X.env.cells.lookup x=some c->c≠b)/\∀p∈X.pn++pins,p.1≠b
theorem Inv.IQ {H':Hp}(I:Inv X pins σ H s)(hb:s.heap.objs.size<=b)(hn:H' b=none):lN X pins H' b:=by
 refine⟨hn,fi (bp I.lt hb),I.P0 hb,.inr (cn I.sz hb),λx c e z=>?_,λp hp z=>?_⟩
 . obtain⟨v,q⟩:=I.cell x c e;exact absurd (bp q.lt (by rw[z];exact hb)) (fw _)
 . exact absurd (bp (ag (I.pin p hp).1) (by rw[z];exact hb)) (fw _)
structure Turn (P:Program)(w:World)(K:Frag)(tg:Expr)(J:It)(fp:List Addr)(it:Addr)(tn:Nat->Heap->Prop):Prop where
 mem:it∈fp
 obj:∀i h,tn i h->∀b∈fp,∃o,h.get? b=some o/\∀v,o.data≠.cell v
 keep:∀i h h',tn i h->(∀b∈fp,∀o,h.get? b=some o->h'.get? b=some o)->tn i h'
 item:∀(X:Cx),X.prog=P->X.w=w->X.K=K->X.calm=true->∀(i:Nat) (pins:List (Addr×Obj)) (s:Shared) (σ:St) (H:Hp) (E:Value->Shared->Prop),Inv X pins σ H s->(∀b∈fp,lN X pins H b)->tn i s.heap->J.go i H->
   wpAny (model P w) X.A (pyNext (.ref it)) (λr s1=>∃u,r=some u/\
     wpAny (model P w) X.A (letOwnedTupleGo tg (.ref it) u) (λ_ s2=>∃x H',Inv X pins σ H' s2/\RelV x u/\J.Me i H x H'/\tn (i + 1) s2.heap/\∀b∈fp,H' b=none) E s1) E s
 done:∀(X:Cx),X.prog=P->X.w=w->X.K=K->X.calm=true->∀(i:Nat) (pins:List (Addr×Obj)) (s:Shared) (σ:St) (H:Hp) (E:Value->Shared->Prop),Inv X pins σ H s->(∀b∈fp,lN X pins H b)->tn i s.heap->J.stop i H->
   wpAny (model P w) X.A (pyNext (.ref it)) (λr s1=>r=none/\Inv X pins σ H s1) E s
 self:∀(A:Around) (i:Nat) (s:Shared) (Q:Value->Shared->Prop) (E:Value->Shared->Prop),tn i s.heap->Q (.ref it) s->wpAny (model P w) A (pyIter (.ref it)) Q E s
abbrev TI:=St->Hp->(It->Hp->Prop)->Prop
def PIE (X:Cx)(pins:List (Addr×Obj))(σ:St)(tg:Expr)(R:It->Hp->Prop)(Qp:Value)(s2:Shared):Prop:=
 ∃(it:Addr) (fp:List Addr) (tn:Nat->Heap->Prop) (J:It) (H':Hp),Qp=.ref it/\Inv X pins σ H' s2/\Turn X.prog X.w X.K tg J fp it tn/\tn 0 s2.heap/\(∀b∈fp,lN X pins H' b)/\R J H'
def PI (X:Cx)(tg iter:Expr)(wi:TI):Prop:=
 ∀(pins:List (Addr×Obj)) (s:Shared) (σ:St) (H:Hp) (R:It->Hp->Prop),Inv X pins σ H s->wi σ H R->
   wpAny (model X.prog X.w) X.A (eval iter X.env) (λv s1=>wpAny (model X.prog X.w) X.A (pyIter v) (PIE X pins σ tg R) X.xe s1) X.xe s
theorem IS {n:String}{vs:Array Value}{Q:Unit->Shared->Prop}(ho:s.heap.get? it=some o)(hc:o.cls=.type n)(hd:o.data=.fields vs)
   (hn:["enumerate","zip","dict_itemiterator","dict_reverseitemiterator","odict_iterator","itertools.zip_longest","itertools.pairwise"].contains n=false) (hQ:Q () s):wpAny M A (letOwnedTupleGo tg (.ref it) u) Q E s:=by
 unfold letOwnedTupleGo;cases tg <;> first
   | exact B2 hQ
   | (cases u <;> first
       | exact B2 hQ
       | (refine B1 (wpAny_load ho ?_)
          rw[hc,hd];show wpAny M A (if (["enumerate","zip","dict_itemiterator","dict_reverseitemiterator","odict_iterator","itertools.zip_longest","itertools.pairwise"].contains n&&vs[0]?==some (rawInt _))=true then _ else _) Q E s;rw[Ee (by intro h;rw[hn,Bool.false_and]at h;cases h)];exact B2 hQ))
def sQ (K:Frag)(a:Addr):It:=
 ⟨λi H=>∃xs x,aR K H a xs/\xs[i]?=some x,λi H x H'=>H'=H/\∀xs,aR K H a xs->xs[i]?=some x,λi H=>∃xs,aR K H a xs/\xs.length<=i⟩
def W4 (K:Frag)(a:Addr):It:=
 ⟨λi H=>∃xs x,wK K H a xs/\xs[i]?=some x,λi H x H'=>H'=H/\∀xs,wK K H a xs->xs[i]?=some x,λi H=>∃xs,wK K H a xs/\xs.length<=i⟩
def zf (lo:Int)(n:Nat):It:=⟨λi _=>i < n,λi H x H'=>H'=H/\x=.int (lo + i),λi _=>n<=i⟩
theorem Gh {K:Frag}(a it:Addr):Turn P w K tg (sQ K a) [it] it (λi h=>h.IsListIter it a i) where
 mem:=RR
 obj:=λi h st b hb=>by
   have e:b=it:=by simpa using hb
   subst e;obtain⟨o,e,c,d⟩:=st;exact⟨o,e,λv z=>by rw[d]at z;cases z⟩
 keep:=λi h h' st k=>st.at λo e=>k it RR o e
 item:=by
   intro X hP hw hK hc i pins s σ H E I hf st hg;subst hP hw hK;obtain⟨xs,x,hq,hx⟩:=hg;obtain⟨bu,rv,p,hz⟩:=I.list hq;obtain⟨u,hu,ru⟩:=rv.get hx;obtain⟨f0,f1,f2,f3,f4,f5⟩:=hf it RR;refine wpAny_pyNext_list_item st p.isList (x:=u) (by simpa using hu) λh' st' sb=>?_;have I1:Inv X pins σ H { s with heap:=h' }:=I.turned (t':=s.toks) (λb o hb e=>(sb.2 b hb).trans e) f0 f1 f3 f4 f5;obtain⟨o,e,c,d⟩:=id st';exact⟨u,rfl,IS (s:={ s with heap:=h' }) e c d RF ⟨x,H,I1,ru,⟨rfl,λys hy=>by rw[I.lJ hy hq];exact hx⟩,st',λb hb=>(hf b hb).1⟩⟩
 done:=by
   intro X hP hw hK hc i pins s σ H E I hf st hg;subst hP hw hK;obtain⟨xs,hq,hx⟩:=hg;obtain⟨bu,rv,p,hz⟩:=I.list hq;obtain⟨f0,f1,f2,f3,f4,f5⟩:=hf it RR;have hl:=rv.length;exact wpAny_pyNext_list_end (I.ok.hd hc) st p.isList Sr λh' eb=>⟨rfl,I.turned (t':=s.toks) (λb o hb e=>eb b o hb e) f0 f1 f3 f4 f5⟩
 self:=λ_ _ _ _ _ st h=>wpAny_pyIter_listiter st h
theorem Cy {K:Frag}(it:Addr)(lo:Int)(n:Nat):Turn P w K tg (zf lo n) [it] it (λi h=>IsRangeIter h it (lo + (i:Nat) * 1) ((n:Int) - (i:Nat)) 1) where
 mem:=RR
 obj:=λi h st b hb=>by
   have e:b=it:=by simpa using hb
   subst e;exact⟨_,st,λv z=>by
     have z':Data.fields _=Data.cell v:=z;cases z'⟩
 keep:=λi h h' st k=>k it RR _ st
 item:=by
   intro X hP hw hK hc i pins s σ H E I hf st hg;subst hP hw hK;obtain⟨f0,f1,f2,f3,f4,f5⟩:=hf it RR;have W:=Walks.range (prog:=X.prog) (w:=X.w) (I.ok.hd hc) it lo 1 n;refine W.item i s _ _ hg st λv h' tk hv st' kk=>?_;obtain⟨t,rfl⟩:=hv;have I1:Inv X pins σ H { s with heap:=h',toks:=tk }:=I.turned (λb o hb e=>kk b o (by simpa using hb) e) f0 f1 f3 f4 f5;refine⟨_,rfl,IS (s:={ s with heap:=h',toks:=tk }) (n:="range_iterator") st' rfl rfl RF ⟨.int (lo + i),H,I1,⟨t,?_⟩,⟨rfl,rfl⟩,st',λb hb=>(hf b hb).1⟩⟩;rw[Int.mul_one]
 done:=by
   intro X hP hw hK hc i pins s σ H E I hf st hg;subst hP hw hK;obtain⟨f0,f1,f2,f3,f4,f5⟩:=hf it RR;exact wpAny_pyNext_range_end (I.ok.hd hc) st (by have:n<=i:=hg;omega) λh' eb=>⟨rfl,I.turned (t':=s.toks) (λb o hb e=>eb b o hb e) f0 f1 f3 f4 f5⟩
 self:=λ_ _ _ _ _ st h=>wpAny_pyIter_rangeiter st h
def qh (K:Frag)(tl:TE):TI:=λσ H R=>tl σ H λx H1=>∃a,x=.ref a/\(∃xs,aR K H1 a xs)/\R (sQ K a) H1
def Qq (K:Frag)(tl:TE):TI:=λσ H R=>tl σ H λx H1=>∃a,x=.ref a/\(∃xs,wK K H1 a xs)/\R (W4 K a) H1
theorem MC {l:Expr}{tl:TE}(hl:PE X l tl):PI X tg l (qh X.K tl):=by
 intro pins s σ H R I h;refine bI (hl pins s σ H _ I h) λv s1 ⟨x,H1,I1,r1,q1⟩=>?_;obtain⟨a,e,⟨xs,hq⟩,q⟩:=q1;subst e;cases r1;obtain⟨bu,rv,p,hz⟩:=I1.list hq;refine Iy p.isList ?_;refine⟨s1.heap.objs.size,[s1.heap.objs.size],_,_,H1,rfl,I1.kept (t':=s1.toks) λb o e=>ae _ e,Gh a _,⟨_,cb _ rfl,rfl,rfl⟩,λb hb=>?_,q⟩;have e:b=s1.heap.objs.size:=by simpa using hb
 subst e;exact I1.IQ (ar _) (I1.c7.fresh (ar _))
theorem AK {R:It->Hp->Prop}{lo hi:Int}{t u v:Tok}{tk:Nat}(I:Inv X pins σ H s)(h1:-(2 ^ 62)<=lo)(h2:lo < 2 ^ 62)(h3:-(2 ^ 62)<=hi)(h4:hi < 2 ^ 62)
   (q:R (zf lo (hi - lo).toNat) H):wpAny (model X.prog X.w) X.A (pyIter (.ref s.heap.objs.size)) (PIE X pins σ tg R) E { s with heap:=s.heap.push { cls:=.type "range",data:=.fields #[.int lo t,.int hi u,.int 1 v] },toks:=tk }:=by
 refine wpAny_pyIter_range (IsRange.new ..) (small_one h1 h2 h3 h4) ?_;have I1:Inv X pins σ H { s with heap:=s.heap.push { cls:=.type "range",data:=.fields #[.int lo t,.int hi u,.int 1 v] },toks:=tk }:=I.kept λb o e=>ae _ e;refine⟨(s.heap.push { cls:=.type "range",data:=.fields #[.int lo t,.int hi u,.int 1 v] }).objs.size,[(s.heap.push { cls:=.type "range",data:=.fields #[.int lo t,.int hi u,.int 1 v] }).objs.size],_,_,H,rfl,
   I1.kept (t':=tk) λb o e=>ae _ e,Cy _ lo (hi - lo).toNat,?_,λb hb=>?_,q⟩
 . have e1:lo + ((0:Nat):Int) * 1=lo:=RR
   have e2:(((hi - lo).toNat:Nat):Int) - ((0:Nat):Int)=Builtin.Range.rangeSize lo hi 1:=by rw[rangeSize_one];split <;> omega
   show IsRangeIter _ _ (lo + ((0:Nat):Int) * 1) ((((hi - lo).toNat:Nat):Int) - ((0:Nat):Int)) 1;rw[e1,e2];exact cb _ rfl
 . have e:b=(s.heap.push { cls:=.type "range",data:=.fields #[.int lo t,.int hi u,.int 1 v] }).objs.size:=by simpa using hb
   subst e;exact I1.IQ (ar _) (I1.c7.fresh (ar _))
def AL (ta:TA):TI:=λσ H R=>ta σ H λvs H1=>∃j:Int,vs=[.int j]/\-(2 ^ 62)<=j/\j < 2 ^ 62/\R (zf 0 j.toNat) H1
def AM (ta:TA):TI:=λσ H R=>ta σ H λvs H1=>∃i j:Int,vs=[.int i,.int j]/\(-(2 ^ 62)<=i/\i < 2 ^ 62/\-(2 ^ 62)<=j/\j < 2 ^ 62)/\R (zf i (j - i).toNat) H1
theorem Gi {a:Expr}{ta:TA}{p:Pos}(hg:Gl X "range")(hm:X.mg "range"=none)(ha:PA X [a] ta)(hs:starEach [a] X.env=[(false,eval a X.env)]:=by rfl):PI X tg (.Call (.Name "range" p) [a] [] pos) (AL ta):=by
 intro pins s σ H R I h;refine Call_ (fV I hg hm boot_range (dy (bI (ha pos pins s σ H _ I h) λus s1 ⟨vs,H1,I1,r1,q1⟩=>?_) hs rfl));obtain⟨j,e,q1,q2,q⟩:=q1;subst e;cases r1 with
 | cons r rr=>
   cases rr;obtain⟨t,rfl⟩:=r;exact call_range_1 (AK I1 QR QR q1 q2 (by simpa using q))
theorem Gj {a b:Expr}{ta:TA}{p:Pos}(hg:Gl X "range")(hm:X.mg "range"=none)(ha:PA X [a,b] ta)(hs:starEach [a,b] X.env=[(false,eval a X.env),(false,eval b X.env)]:=by rfl)(IT:starEach [b] X.env=[(false,eval b X.env)]:=by rfl):
   PI X tg (.Call (.Name "range" p) [a,b] [] pos) (AM ta):=by
 intro pins s σ H R I h;refine Call_ (fV I hg hm boot_range (dy (bI (ha pos pins s σ H _ I h) λus s1 ⟨vs,H1,I1,r1,q1⟩=>?_) (by rw[hs,IT]) (by rw[IT];rfl)));obtain⟨i,j,e,⟨q1,q2,q3,q4⟩,q⟩:=q1;subst e;cases r1 with
 | cons r rr=>
   cases rr with
   | cons r' rr=>
     cases rr;obtain⟨t,rfl⟩:=r;obtain⟨t',rfl⟩:=r';exact call_range_2 (AK I1 q1 q2 q3 q4 q)
def oq (wi:TI)(g:TG)(tb:TS):TS:=λD σ H=>wi σ H λJ H1=>∃W:Nat->Nat->St->Hp->Prop,(∃m,W 0 m σ H1)/\∀i m σ H,W i m σ H->
 (J.stop i H/\D.nx σ H)∨(J.go i H/\∃N:St->Hp->Prop,(∀σ' H',N σ' H'->∃m',m' < m/\W (i + 1) m' σ' H')/\∀x H',J.Me i H x H'->g x σ H' λσ2 H2=>tb { D with nx:=N,ct:=N,bk:=D.nx } σ2 H2)
def lO (fp:List Addr)(h:Heap):List (Addr×Obj):=fp.filterMap λb=>(h.get? b).map λo=>(b,o)
theorem eW (hb:b∈fp)(e:h.get? b=some o):(b,o)∈lO fp h:=wb.mpr ⟨b,hb,by rw[e];rfl⟩
theorem Gk {p:Addr×Obj}(hp:p∈lO fp h):p.1∈fp/\h.get? p.1=some p.2:=by
 obtain⟨b,hb,e⟩:=wb.mp hp;cases q:h.get? b with
 | none=>rw[q]at e;cases e
 | some o=>
   rw[q]at e;have e':(b,o)=p:=Option.some.inj e;subst e';exact⟨hb,q⟩
theorem Inv.pinned (I:Inv X pins σ H s)(hf:∀b∈fp,lN X pins H b)(ho:∀b∈fp,∃o,s.heap.get? b=some o/\∀v,o.data≠.cell v):Inv X (pins++lO fp s.heap) σ H s:=
 I.ug λp hp=>(da.mp hp).elim (λz=>I.pin p (cf _ z)) λz=>by
   obtain⟨hb,e⟩:=Gk z;obtain⟨f0,f1,f2,_⟩:=hf p.1 hb;obtain⟨o,e',d⟩:=ho p.1 hb;rw[e]at e';cases e';exact⟨e,f0,f1,f2,d⟩
theorem Inv.gU {pl:List (Addr×Obj)}(I:Inv X (pins++pl) σ H s):Inv X pins σ H s:=I.ug λp hp=>I.pin p (cf _ (lx _ hp))
theorem Qs {iter:Expr}{wi:TI}{g:TG}(hp:PassesOwn (model X.prog X.w) X.A X.env X.xe)(hc:X.calm=true)(hi:PI X tg iter wi)(hg:PG X tg g)(hb:Ce X body tb)
   (hs:∀x,foldedSetIterable iter X.env x=pure x:=by intro _;rfl):PS X (.For tg iter body [] pos) (oq wi g tb):=by
 intro pins s σ H D I h;refine wpAny_For (bI (hi pins s σ H _ I h) λv s1 h1=>bI h1 λQp s2 h2=>?_) hs;obtain⟨it,fp,tn,J,H2,e,I2,T,st2,f2,W,⟨m0,w0⟩,turn⟩:=h2;subst e;have pF:∀{H':Hp},(∀b∈fp,H' b=none)->∀b∈fp,lN X pins H' b:=λhn b hb=>⟨hn b hb,(f2 b hb).2⟩
 refine codeAny_forLoop_any (λn s'=>∃i σ' H',Inv X pins σ' H' s'/\tn i s'.heap/\(∀b∈fp,H' b=none)/\W i n σ' H') ?_ m0 ⟨0,σ,H2,I2,st2,λb hb=>(f2 b hb).1,w0⟩;rintro n s3 ⟨i,σ3,H3,I3,st3,fr3,w3⟩;rcases turn i n σ3 H3 w3 with ⟨stop,qn⟩ | ⟨go,N,hN,step⟩
 . refine Kb hp (bI (T.done X rfl rfl rfl hc i pins s3 σ3 H3 X.xe I3 (pF fr3) st3 stop) λr s4 ⟨hr,I4⟩=>?_);subst hr;exact wpAny_execs_nil ⟨σ3,H3,I4,qn⟩
 . refine Kb hp (bI (T.item X rfl rfl rfl hc i pins s3 σ3 H3 X.xe I3 (pF fr3) st3 go) λr s4 ⟨u,hr,h4⟩=>?_);subst hr;refine Kb hp (bI h4 λ_ s5 ⟨x,H5,I5,r5,y5,st5,fr5⟩=>?_);have Qt:=I5.pinned (pF fr5) (T.obj _ _ st5);refine Kb hp (bI (hg _ s5 σ3 H5 x u _ Qt r5 (step x H5 y5)) λ_ s6 ⟨σ6,H6,I6,q6⟩=>?_);refine Kb hp (bI (hb _ s6 σ6 H6 _ I6 q6) λf s7 q7=>?_);have again:∀{σ7:St}{H7:Hp},Inv X (pins++lO fp s5.heap) σ7 H7 s7->N σ7 H7->∃m,m < n/\∃i σ' H',Inv X pins σ' H' s7/\tn i s7.heap/\(∀b∈fp,H' b=none)/\W i m σ' H':=λ{σ7 H7} I7 n7=>by
     obtain⟨m',hm,w7⟩:=hN σ7 H7 n7;refine⟨m',hm,i + 1,σ7,H7,I7.gU,T.keep _ _ _ st5 λb hb o e=>(I7.pin (b,o) (cf _ (cf _ (eW hb e)))).1,λb hb=>?_,w7⟩;obtain⟨o,e,d⟩:=T.obj _ _ st5 b hb;exact(I7.pin (b,o) (cf _ (cf _ (eW hb e)))).2.1
   cases f with
   | next=>obtain⟨σ7,H7,I7,n7⟩:=q7;exact again I7 n7
   | cont=>obtain⟨σ7,H7,I7,n7⟩:=q7;exact again I7 n7
   | brk=>obtain⟨σ7,H7,I7,q7⟩:=q7;exact⟨σ7,H7,I7.gU,q7⟩
   | ret v=>obtain⟨x7,σ7,H7,I7,r7,q7⟩:=q7;exact⟨x7,σ7,H7,I7.gU,r7,q7⟩
theorem IU {K:Frag}{a:Addr}{g:TG}(Pv:Nat->St->Hp->Prop)(h0:Pv 0 σ H)(hl:∀i σ H,i<=xs.length->Pv i σ H->aR K H a xs)
   (hs:∀i x σ H,xs[i]?=some x->Pv i σ H->g x σ H λσ2 H2=>tb { D with nx:=Pv (i + 1),ct:=Pv (i + 1),bk:=D.nx } σ2 H2) (hd:∀σ H,Pv xs.length σ H->D.nx σ H):
   ∃W:Nat->Nat->St->Hp->Prop,(∃m,W 0 m σ H)/\∀i m σ H,W i m σ H->
     ((sQ K a).stop i H/\D.nx σ H)∨((sQ K a).go i H/\∃N:St->Hp->Prop,(∀σ' H',N σ' H'->∃m',m' < m/\W (i + 1) m' σ' H')/\∀x H',(sQ K a).Me i H x H'->g x σ H' λσ2 H2=>tb { D with nx:=N,ct:=N,bk:=D.nx } σ2 H2):=by
 refine⟨λi m σ H=>m=xs.length - i/\i<=xs.length/\Pv i σ H,⟨xs.length,by simp,hU _,h0⟩,?_⟩;rintro i m σ H ⟨rfl,hi,p⟩;have q:=hl i σ H hi p
 by_cases jg:i < xs.length
 . refine .inr ⟨⟨xs,xs[i],q,by simp[jg]⟩,Pv (i + 1),λσ' H' p'=>⟨xs.length - (i + 1),by omega,rfl,jg,p'⟩,λx H' y=>?_⟩;obtain⟨e,y⟩:=y;subst e;exact hs i x σ _ (y xs q) p
 . have e:i=xs.length:=QR
   subst e;exact .inl ⟨⟨xs,q,ar _⟩,hd σ H p⟩
theorem Gm {lo:Int}{g:TG}(Pv:Nat->St->Hp->Prop)(h0:Pv 0 σ H)
   (hs:∀i σ H,i < n->Pv i σ H->g (.int (lo + i)) σ H λσ2 H2=>tb { D with nx:=Pv (i + 1),ct:=Pv (i + 1),bk:=D.nx } σ2 H2) (hd:∀σ H,Pv n σ H->D.nx σ H):
   ∃W:Nat->Nat->St->Hp->Prop,(∃m,W 0 m σ H)/\∀i m σ H,W i m σ H->
     ((zf lo n).stop i H/\D.nx σ H)∨((zf lo n).go i H/\∃N:St->Hp->Prop,(∀σ' H',N σ' H'->∃m',m' < m/\W (i + 1) m' σ' H')/\∀x H',(zf lo n).Me i H x H'->g x σ H' λσ2 H2=>tb { D with nx:=N,ct:=N,bk:=D.nx } σ2 H2):=by
 refine⟨λi m σ H=>m=n - i/\i<=n/\Pv i σ H,⟨n,by simp,hU _,h0⟩,?_⟩;rintro i m σ H ⟨rfl,hi,p⟩
 by_cases jg:i < n
 . refine .inr ⟨jg,Pv (i + 1),λσ' H' p'=>⟨n - (i + 1),by omega,rfl,jg,p'⟩,λx H' y=>?_⟩;obtain⟨e,y⟩:=y;subst e y;exact hs i σ _ jg p
 . have e:i=n:=QR
   subst e;exact .inl ⟨ar _,hd σ H p⟩
abbrev R2:=V->V->Hp->VK->Prop
def iM (X:Cx)(f:Value->Value->Sem Value)(r:R2):Prop:=
 ∀(pins:List (Addr×Obj)) (s:Shared) (σ:St) (H:Hp) (x y:V) (v u:Value) (Q:VK),Inv X pins σ H s->RelV x v->RelV y u->r x y H Q->
   wpAny (model X.prog X.w) X.A (f v u) (EP X pins σ Q) X.xe s
def W5 (X:Cx)(f:Value->Sem Value)(r:V->Hp->VK->Prop):Prop:=
 ∀(pins:List (Addr×Obj)) (s:Shared) (σ:St) (H:Hp) (x:V) (v:Value) (Q:VK),Inv X pins σ H s->RelV x v->r x H Q->
   wpAny (model X.prog X.w) X.A (f v) (EP X pins σ Q) X.xe s
def ef (X:Cx)(f:Value)(r:List V->Hp->VK->Prop):Prop:=
 ∀(pins:List (Addr×Obj)) (s:Shared) (σ:St) (H:Hp) (xs:List V) (us:List Value) (Q:VK),Inv X pins σ H s->Vals xs us->r xs H Q->
   wpAny (model X.prog X.w) X.A (call f us) (EP X pins σ Q) X.xe s
def Yp (X:Cx)(r:V->Hp->(Bool->Hp->Prop)->Prop):Prop:=
 ∀(pins:List (Addr×Obj)) (s:Shared) (σ:St) (H:Hp) (x:V) (v:Value) (Q:Bool->Hp->Prop),Inv X pins σ H s->RelV x v->r x H Q->
   wpAny (model X.prog X.w) X.A (truthy v) (TP X pins σ Q) X.xe s
def Gn (r:R2)(ta tb:TE):TE:=λσ H Q=>ta σ H λx H1=>tb σ H1 λy H2=>r x y H2 Q
def Yq (r:V->Hp->VK->Prop)(ta:TE):TE:=λσ H Q=>ta σ H λx H1=>r x H1 Q
def rI (C:Int->Int->Prop)(g:Int->Int->V):R2:=λx y H Q=>∃i j,x=.int i/\y=.int j/\C i j/\Q (g i j) H
def Mf (g:Int->Int->V):R2:=λx y H Q=>∃i j,x=.int i/\y=.int j/\Q (g i j) H
def rU (g:Int->V):V->Hp->VK->Prop:=λx H Q=>∃i,x=.int i/\Q (g i) H
section
variable {a b c:Expr}{tb tc:TE}
theorem Qu (ha:PE X a ta)(hb:PE X b tb){R:V->V->Hp->Prop}(I:Inv X pins σ H s)
   (h:ta σ H λx H1=>tb σ H1 λy H2=>R x y H2) 
   (hf:∀v u s2 x y H2,Inv X pins σ H2 s2->RelV x v->RelV y u->R x y H2->wpAny (model X.prog X.w) X.A (f v u) Q X.xe s2):
   wpAny (model X.prog X.w) X.A (eval a X.env) (λv s₁=>wpAny (model X.prog X.w) X.A (eval b X.env) (λu s₂=>wpAny (model X.prog X.w) X.A (f v u) Q X.xe s₂) X.xe s₁) X.xe s:=by
 refine bI (ha pins s σ H _ I h) λv s1 ⟨x,H1,I1,r1,q1⟩=>?_;refine bI (hb pins s1 σ H1 _ I1 q1) λu s2 ⟨y,H2,I2,r2,q2⟩=>?_;exact hf v u s2 x y H2 I2 r1 r2 q2
theorem OD {op:Operator}{r:R2}(ho:iM X (binaryOp op) r)(ha:PE X a ta)(hb:PE X b tb):PE X (.BinOp a op b pos) (Gn r ta tb):=by
 intro pins s σ H Q I h;exact wpAny_BinOp (Qu ha hb I h λv u s2 x y H2 I2 rx ry q=>ho pins s2 σ H2 x y v u Q I2 rx ry q)
theorem UD {op:UnaryOp}{r:V->Hp->VK->Prop}(ho:W5 X (unaryOp op) r)(ha:PE X a ta):PE X (.UnaryOp op a pos) (Yq r ta):=by
 intro pins s σ H Q I h;exact UnaryOp_ (bI (ha pins s σ H _ I h) λv s1 ⟨x,H1,I1,r1,q1⟩=>ho pins s1 σ H1 x v Q I1 r1 q1)
theorem W6 {C:Int->Int->Prop}
   (rule:∀(i j:Int) (t u:Tok) (s:Shared) (Q:Value->Shared->Prop) (E:Value->Shared->Prop),C i j->Q (.int (g i j) s.toks) { s with toks:=s.toks + 1 }->wpAny (model X.prog X.w) X.A (f (.int i t) (.int j u)) Q E s):
   iM X f (rI C λi j=>.int (g i j)):=by
 intro pins s σ H x y v u Q I rx ry h;obtain⟨i,j,rfl,rfl,hc,q⟩:=h;obtain⟨t,rfl⟩:=rx;obtain⟨t',rfl⟩:=ry;exact rule i j t t' s _ _ hc ⟨.int (g i j),H,I.tok _,⟨_,rfl⟩,q⟩
theorem UE 
   (rule:∀(i j:Int) (t u:Tok) (s:Shared) (Q:Value->Shared->Prop) (E:Value->Shared->Prop),Q (.int (g i j) s.toks) { s with toks:=s.toks + 1 }->wpAny (model X.prog X.w) X.A (f (.int i t) (.int j u)) Q E s):
   iM X f (Mf λi j=>.int (g i j)):=by
 intro pins s σ H x y v u Q I rx ry h;obtain⟨i,j,rfl,rfl,q⟩:=h;obtain⟨t,rfl⟩:=rx;obtain⟨t',rfl⟩:=ry;exact rule i j t t' s _ _ ⟨.int (g i j),H,I.tok _,⟨_,rfl⟩,q⟩
theorem MD {g:Int->Int->Bool}
   (rule:∀(i j:Int) (t u:Tok) (s:Shared) (Q:Value->Shared->Prop) (E:Value->Shared->Prop),Q (.bool (g i j)) s->wpAny (model X.prog X.w) X.A (f (.int i t) (.int j u)) Q E s):
   iM X f (Mf λi j=>.bl (g i j)):=by
 intro pins s σ H x y v u Q I rx ry h;obtain⟨i,j,rfl,rfl,q⟩:=h;obtain⟨t,rfl⟩:=rx;obtain⟨t',rfl⟩:=ry;exact rule i j t t' s _ _ ⟨.bl (g i j),H,I,rfl,q⟩
def UG (i j:Int):Prop:=0<=j/\j<=1000000/\i.natAbs < 2 ^ 64
def ME (i j:Int):Prop:=(-(2 ^ 64) < i/\i < 2 ^ 64)∨(-(2 ^ 64) < j/\j < 2 ^ 64)
theorem ME.ok {i j:Int}(h:ME i j):IntMulOk i j:=by
 rcases h with ⟨h1,h2⟩ | ⟨h1,h2⟩
 . exact .of_left (intBits_le_64 h1 h2)
 . exact .of_right (intBits_le_64 h1 h2)
theorem bw:iM X (binaryOp .Add) (Mf λi j=>.int (i + j)):=UE λ_ _ _ _ _ _ _ q=>add_int q
theorem fW:iM X (binaryOp .Sub) (Mf λi j=>.int (i - j)):=UE λ_ _ _ _ _ _ _ q=>sub_int q
theorem fK:iM X (binaryOp .Mult) (rI ME λi j=>.int (i * j)):=W6 λ_ _ _ _ _ _ _ hc q=>mul_int q hc.ok
theorem pG:iM X (binaryOp .Mod) (rI (λ_ j=>0 < j) λi j=>.int (i % j)):=W6 λi j _ _ _ _ _ hc q=>by
 have h1:(0:Int) < j:=hc;exact mod_int' QR (by rw[Int.fmod_eq_emod_of_nonneg i QR];exact q)
theorem Qv:iM X (binaryOp .Pow) (rI UG λi j=>.int (i ^ j.toNat)):=W6 λ_ _ _ _ _ _ _ hc q=>pow_int_small hc.1 hc.2.1 hc.2.2 q
theorem unI {f:Value->Sem Value}{g:Int->Int}
   (rule:∀(i:Int) (t:Tok) (s:Shared) (Q:Value->Shared->Prop) (E:Value->Shared->Prop),Q (.int (g i) s.toks) { s with toks:=s.toks + 1 }->wpAny (model X.prog X.w) X.A (f (.int i t)) Q E s):
   W5 X f (rU λi=>.int (g i)):=by
 intro pins s σ H x v Q I rx h;obtain⟨i,rfl,q⟩:=h;obtain⟨t,rfl⟩:=rx;exact rule i t s _ _ ⟨.int (g i),H,I.tok _,⟨_,rfl⟩,q⟩
theorem pH:W5 X (unaryOp .USub) (rU λi=>.int (-i)):=unI λ_ _ _ _ _ q=>neg_int q
end
def ow:V->V->Bool
 | .bO,.bO=>true | .bO,.int _=>true | .int _,.bO=>true | .bO,.bl _=>true | .bl _,.bO=>true | .bO,.str _=>true | .str _,.bO=>true
 | .int _,.int _=>true | .bl _,.bl _=>true | .str _,.str _=>true | .Ef _,.Ef _=>true
 | .int _,.str _=>true | .str _,.int _=>true | .bl _,.str _=>true | .str _,.bl _=>true
 | _,_=>false
def rEq:R2:=λx y H Q=>ow x y=true/\Q (.bl (decide (x=y))) H
def rNe:R2:=λx y H Q=>ow x y=true/\Q (.bl (!decide (x=y))) H
theorem Ej {i j:Int}:decide (V.int i=V.int j)=(i==j):=by
 rw[oy];simp
theorem IV {i j:Bool}:decide (V.bl i=V.bl j)=(i==j):=by
 rw[oy];simp
theorem El {i j:Str}:decide (V.str i=V.str j)=(i==j):=by
 rw[oy];simp
theorem Em {i j:Array UInt8}:decide (V.Ef i=V.Ef j)=(i.toList==j.toList):=by
 rw[oy];cases i;cases j;simp
section
variable {a b c:Expr}{tb tc:TE}
theorem bJ {Q:VK}{k k':Bool}(I:Inv X pins σ H s)(q:Q (.bl k) H)(e:k=k'):EP X pins σ Q (.bool k') s:=by
 subst e;exact⟨.bl k,H,I,rfl,q⟩
theorem fq:iM X (compareOp .Eq) rEq:=by
 intro pins s σ H x y v u Q I rx ry h;obtain⟨hs,q⟩:=h;cases x with
 | bO=>
   cases rx;cases y with
   | bO=>cases ry;exact PySem.EqNone.eq_none_none (bJ I q RR)
   | bl j=>cases ry;exact PySem.EqNone.eq_none_bool (bJ I q RR)
   | int j=>obtain⟨t',rfl⟩:=ry;exact PySem.EqNone.eq_none_int (bJ I q RR)
   | str j=>obtain⟨t',rfl⟩:=ry;exact PySem.EqNone.eq_none_str (bJ I q RR)
   | _=>exact absurd (show false=true from hs) dr
 | bl i=>
   cases rx;cases y with
   | bO=>cases ry;exact PySem.EqNone.eq_bool_none (bJ I q RR)
   | bl j=>cases ry;exact eq_bool (bJ I q IV)
   | str j=>obtain⟨t',rfl⟩:=ry;exact PySem.EqMixed.eq_bool_str (bJ I q RR)
   | _=>exact absurd (show false=true from hs) dr
 | int i=>
   obtain⟨t,rfl⟩:=rx;cases y with
   | bO=>cases ry;exact PySem.EqNone.eq_int_none (bJ I q RR)
   | int j=>obtain⟨t',rfl⟩:=ry;exact eq_int (bJ I q Ej)
   | str j=>obtain⟨t',rfl⟩:=ry;exact PySem.EqMixed.eq_int_str (bJ I q RR)
   | _=>exact absurd (show false=true from hs) dr
 | str i=>
   obtain⟨t,rfl⟩:=rx;cases y with
   | bO=>cases ry;exact PySem.EqNone.eq_str_none (bJ I q RR)
   | bl j=>cases ry;exact PySem.EqMixed.eq_str_bool (bJ I q RR)
   | int j=>obtain⟨t',rfl⟩:=ry;exact PySem.EqMixed.eq_str_int (bJ I q RR)
   | str j=>obtain⟨t',rfl⟩:=ry;exact eq_str (bJ I q El)
   | _=>exact absurd (show false=true from hs) dr
 | Ef i=>
   obtain⟨t,rfl⟩:=rx;cases y with
   | Ef j=>obtain⟨t',rfl⟩:=ry;exact PySem.W.eq_bytes (bJ I q Em)
   | _=>exact absurd (show false=true from hs) dr
 | _=>cases y <;> exact absurd (show false=true from hs) dr
theorem sR:iM X (compareOp .NotEq) rNe:=by
 intro pins s σ H x y v u Q I rx ry h;obtain⟨hs,q⟩:=h;cases x with
 | bO=>
   cases rx;cases y with
   | bO=>cases ry;exact PySem.EqNone.ne_none_none (bJ I q RR)
   | bl j=>cases ry;exact PySem.EqNone.ne_none_bool (bJ I q RR)
   | int j=>obtain⟨t',rfl⟩:=ry;exact PySem.EqNone.ne_none_int (bJ I q RR)
   | str j=>obtain⟨t',rfl⟩:=ry;exact PySem.EqNone.ne_none_str (bJ I q RR)
   | _=>exact absurd (show false=true from hs) dr
 | bl i=>
   cases rx;cases y with
   | bO=>cases ry;exact PySem.EqNone.ne_bool_none (bJ I q RR)
   | bl j=>cases ry;exact ne_bool (bJ I q (congrArg not IV))
   | str j=>obtain⟨t',rfl⟩:=ry;exact PySem.EqMixed.ne_bool_str (bJ I q RR)
   | _=>exact absurd (show false=true from hs) dr
 | int i=>
   obtain⟨t,rfl⟩:=rx;cases y with
   | bO=>cases ry;exact PySem.EqNone.ne_int_none (bJ I q RR)
   | int j=>obtain⟨t',rfl⟩:=ry;exact ne_int (bJ I q (congrArg not Ej))
   | str j=>obtain⟨t',rfl⟩:=ry;exact PySem.EqMixed.ne_int_str (bJ I q RR)
   | _=>exact absurd (show false=true from hs) dr
 | str i=>
   obtain⟨t,rfl⟩:=rx;cases y with
   | bO=>cases ry;exact PySem.EqNone.ne_str_none (bJ I q RR)
   | bl j=>cases ry;exact PySem.EqMixed.ne_str_bool (bJ I q RR)
   | int j=>obtain⟨t',rfl⟩:=ry;exact PySem.EqMixed.ne_str_int (bJ I q RR)
   | str j=>obtain⟨t',rfl⟩:=ry;exact ne_str (bJ I q (congrArg not El))
   | _=>exact absurd (show false=true from hs) dr
 | Ef i=>
   obtain⟨t,rfl⟩:=rx;cases y with
   | Ef j=>obtain⟨t',rfl⟩:=ry;exact PySem.W.ne_bytes (bJ I q (congrArg not Em))
   | _=>exact absurd (show false=true from hs) dr
 | _=>cases y <;> exact absurd (show false=true from hs) dr
theorem iN:iM X (compareOp .Lt) (Mf λi j=>.bl (decide (i < j))):=MD λ_ _ _ _ _ _ _ q=>lt_int q
theorem fX:iM X (compareOp .LtE) (Mf λi j=>.bl (decide (i<=j))):=MD λ_ _ _ _ _ _ _ q=>le_int q
theorem AN:iM X (compareOp .Gt) (Mf λi j=>.bl (decide (j < i))):=MD λ_ _ _ _ _ _ _ q=>gt_int q
theorem OE:iM X (compareOp .GtE) (Mf λi j=>.bl (decide (j<=i))):=MD λ_ _ _ _ _ _ _ q=>ge_int q
theorem iO:iM X (compareOp .Is) (λx y H Q=>y=.bO/\Q (.bl (decide (x=.bO))) H):=by
 intro pins s σ H x y v u Q I rx ry h;obtain⟨rfl,q⟩:=h;cases ry;refine is_none_gen (bJ I q ?_);cases x <;> first
   | (cases rx;rfl)
   | (obtain⟨t,rfl⟩:=rx;rfl)
theorem En:iM X (compareOp .IsNot) (λx y H Q=>y=.bO/\Q (.bl (!decide (x=.bO))) H):=by
 intro pins s σ H x y v u Q I rx ry h;obtain⟨rfl,q⟩:=h;cases ry;refine isnot_none_gen (bJ I q ?_);cases x <;> first
   | (cases rx;rfl)
   | (obtain⟨t,rfl⟩:=rx;rfl)
theorem aF (b:Expr)(h:op≠.In:=by decide)(h2:op≠.NotIn:=by decide):behindInMarks op b=false:=by
 have e1:(op==CmpOp.In)=false:=by cases op <;> first | rfl | exact absurd rfl h
 have e2:(op==CmpOp.NotIn)=false:=by cases op <;> first | rfl | exact absurd rfl h2
 cases b <;> simp[behindInMarks,e1,e2]
theorem MF {r:R2}(ho:iM X (compareOp op) r)(ha:PE X a ta)(hb:PE X b tb)(hm:behindInMarks op b=false):PE X (.Compare a [op] [b] pos) (Gn r ta tb):=by
 intro pins s σ H Q I h;exact wpAny_Compare1 (Qu ha hb I h λv u s2 x y H2 I2 rx ry q=>ho pins s2 σ H2 x y v u Q I2 rx ry q) hm
def uJ (t:TE):TT:=λσ H Q=>t σ H λx H'=>∃k,x=.bl k/\Q k H'
theorem MG {r:R2}(ho:iM X (compareOp op) r)(ha:PE X a ta)(hb:PE X b tb)(hm:behindInMarks op b=false):PT X (.Compare a [op] [b] pos) (uJ (Gn r ta tb)):=by
 intro pins s σ H Q I h;refine wpAny_isTrue_Compare1 (bI (ha pins s σ H _ I h) λv s1 ⟨x,H1,I1,r1,q1⟩=>bI (hb pins s1 σ H1 _ I1 q1) λu s2 ⟨y,H2,I2,r2,q2⟩=>
   bI (ho pins s2 σ H2 x y v u _ I2 r1 r2 q2) λc s3 ⟨z,H3,I3,r3,k,e,q3⟩=>?_) hm
 subst e;cases r3;exact Hc ⟨H3,I3,q3⟩
def pI (r r':R2)(ta tb tc:TE):TE:=λσ H Q=>ta σ H λx H1=>tb σ H1 λy H2=>r x y H2 λz H3=>∃k,z=.bl k/\
 (if k=true then tc σ H3 λw' H4=>r' y w' H4 Q else Q (.bl false) H3)
theorem IW {Cz:CmpOp}{r r':R2}(ho:iM X (compareOp op) r)(Cr:iM X (compareOp Cz) r')(ha:PE X a ta)(hb:PE X b tb)(hc:PE X c tc)
   (hm:lastMarks [op,Cz] [b,c]=false:=by with_unfolding_all rfl):PE X (.Compare a [op,Cz] [b,c] pos) (pI r r' ta tb tc):=by
 intro pins s σ H Q I h;refine Compare_chain (bI (ha pins s σ H _ I h) λv s1 ⟨x,H1,I1,r1,q1⟩=>chain_link (bI (hb pins s1 σ H1 _ I1 q1) λu s2 ⟨y,H2,I2,r2,q2⟩=>
   bI (ho pins s2 σ H2 x y v u _ I2 r1 r2 q2) λd s3 ⟨z,H3,I3,r3,k,e,q3⟩=>?_)) hm
 subst e;cases r3;refine Hc ?_;cases k with
 | false=>exact ite_ff ⟨.bl false,H3,I3,rfl,q3⟩
 | true=>exact ite_tt (chain_last (bI (hc pins s3 σ H3 _ I3 q3) λw' s4 ⟨z',H4,I4,r4,q4⟩=>Cr pins s4 σ H4 y z' u w' Q I4 r2 r4 q4))
theorem IX {Cz:CmpOp}{r r':R2}(ho:iM X (compareOp op) r)(Cr:iM X (compareOp Cz) r')(ha:PE X a ta)(hb:PE X b tb)(hc:PE X c tc)
   (hm:lastMarks [op,Cz] [b,c]=false:=by with_unfolding_all rfl):PT X (.Compare a [op,Cz] [b,c] pos) (uJ (pI r r' ta tb tc)):=by
 intro pins s σ H Q I h;refine isTrue_chain (bI (ha pins s σ H _ I h) λv s1 ⟨x,H1,I1,r1,q1⟩=>test_link (bI (hb pins s1 σ H1 _ I1 q1) λu s2 ⟨y,H2,I2,r2,q2⟩=>
   bI (ho pins s2 σ H2 x y v u _ I2 r1 r2 q2) λd s3 ⟨z,H3,I3,r3,k,e,q3⟩=>?_)) hm
 subst e;cases r3;refine Hc ?_;cases k with
 | false=>
   obtain⟨k',e',q'⟩:=q3;cases e';exact ite_ff ⟨H3,I3,q'⟩
 | true=>
   refine ite_tt (test_last (bI (hc pins s3 σ H3 _ I3 q3) λw' s4 ⟨z',H4,I4,r4,q4⟩=>bI (Cr pins s4 σ H4 y z' u w' _ I4 r2 r4 q4) λd' s5 ⟨z2,H5,I5,r5,k2,e2,q5⟩=>?_));subst e2;cases r5;exact Hc ⟨H5,I5,q5⟩
def Qw (K:Frag)(x:V)(H:Hp)(k:Bool):Prop:=
 match x with
 | .bO=>k=false
 | .bl b=>k=b
 | .int i=>k=(i !=0)
 | .str y=>y.length<=sizeLine/\k=((y.length:Int) !=0)
 | .Ef y=>y.size<=sizeLine/\k=((y.size:Int) !=0)
 | .ref p=>(∃xs,aR K H p xs/\k=!xs.isEmpty)∨(∃xs,wK K H p xs/\k=!xs.isEmpty)∨∃aA,H p=some (.dK aA)/\k=!aA.isEmpty
 | _=>False
theorem CA {aA:List (κ×V)}{vs:List (κ×Value)}(r:KV aA vs):(!vs.isEmpty)=!aA.isEmpty:=by
 cases r <;> rfl
theorem uK {bu:List Value}(r:Vals xs bu):(!bu.toArray.isEmpty)=!xs.isEmpty:=by
 cases r <;> simp
theorem uL:(sizeLine:Nat) < 2 ^ 63:=by rw[NA];decide
theorem Qx:Yp X (λx H Q=>∃k,Qw X.K x H k/\Q k H):=by
 intro pins s σ H x v Q I rx h;obtain⟨k,e,q⟩:=h;have hl:=uL;have hs:sizeLine=16777216:=NA;cases x with
 | bO=>
   cases rx;have e':k=false:=e;subst e';exact truthy_none ⟨H,I,q⟩
 | bl b=>
   cases rx;have e':k=b:=e;subst e';exact Hc ⟨H,I,q⟩
 | int i=>
   obtain⟨t,rfl⟩:=rx;have e':k=(i !=0):=e;subst e';exact PySem.P.truthy_int ⟨H,I,q⟩
 | str y=>
   obtain⟨t,rfl⟩:=rx;obtain⟨hy,e'⟩:y.length<=sizeLine/\k=((y.length:Int) !=0):=e;subst e';exact PySem.P.truthy_str QR ⟨H,I.tok _,q⟩
 | Ef y=>
   obtain⟨t,rfl⟩:=rx;obtain⟨hy,e'⟩:y.size<=sizeLine/\k=((y.size:Int) !=0):=e;subst e';exact PySem.W.truthy_bytes QR ⟨H,I.tok _,q⟩
 | ref p=>
   cases rx;have e':(∃xs,aR X.K H p xs/\k=!xs.isEmpty)∨(∃xs,wK X.K H p xs/\k=!xs.isEmpty)∨∃aA,H p=some (.dK aA)/\k=!aA.isEmpty:=e;rcases e' with ⟨xs,hx,e'⟩ | ⟨xs,hx,e'⟩ | ⟨aA,hx,e'⟩
   . subst e';obtain⟨bu,r,pl,hz⟩:=I.list hx;have hlen:=r.length;exact wpAny_truthy_list pl.isList (by simp only[cp];omega) ⟨H,I.tok _,by rw[uK r];exact q⟩
   . subst e';obtain⟨bu,r,pl,hz⟩:=I.tuple hx;have hlen:=r.length;exact truthy_tuple pl (by simp only[cp];omega) ⟨H,I.tok _,by rw[uK r];exact q⟩
   . subst e';obtain⟨hz,hS,vs,r,m⟩:aA.length<=sizeLine/\(p==sysModules)=false/\∃vs,KV aA vs/\s.heap.DictOf (c9 X.prog X.w) p vs:=I.c7 p _ hx;have hlen:aA.length=vs.length:=xc r;exact wpAny_truthy_dict hS m QR ⟨H,I.tok _,by rw[CA r];exact q⟩
 | _=>exact(show False from e).elim
theorem IY (ha:PE X a ta)(he:∀whole,isTrue a X.env whole=(do let v <- whole;standAt a.pos;holding [v] (truthy v))):
   PT X a (λσ H Q=>ta σ H λx H'=>∃k,Qw X.K x H' k/\Q k H'):=by
 intro pins s σ H Q I h;exact isTrue_plain (bI (ha pins s σ H _ I h) λv s1 ⟨x,H1,I1,r1,q1⟩=>Qx pins s1 σ H1 x v Q I1 r1 q1) (he _)
theorem vals1 {x:V}(r:Vals [x] us):∃u,us=[u]/\RelV x u:=by
 cases r with
 | cons r1 r2=>cases r2;exact⟨_,rfl,r1⟩
theorem vals2 {x y:V}(r:Vals [x,y] us):∃u w',us=[u,w']/\RelV x u/\RelV y w':=by
 cases r with
 | cons r1 r2=>
   cases r2 with
   | cons r3 r4=>cases r4;exact⟨_,_,rfl,r1,r3⟩
theorem Gp (hc:X.calm=true):ef X (.builtin "max") (λxs H Q=>∃i j,xs=[.int i,.int j]/\Q (.int (if j > i then j else i)) H):=by
 intro pins s σ H xs us Q I r h;obtain⟨i,j,rfl,q⟩:=h;obtain⟨u,w',rfl,⟨t,rfl⟩,⟨t',rfl⟩⟩:=vals2 r;refine max_two_ints (I.ok.hd hc) λh' tk k=>⟨_,H,I.kept k,?_,q⟩
 by_cases hj:j > i
 . rw[Fh hj,Fh hj];exact⟨_,rfl⟩
 . rw[Ee hj,Ee hj];exact⟨_,rfl⟩
theorem rK (hc:X.calm=true):ef X (.builtin "min") (λxs H Q=>∃i j,xs=[.int i,.int j]/\Q (.int (if j < i then j else i)) H):=by
 intro pins s σ H xs us Q I r h;obtain⟨i,j,rfl,q⟩:=h;obtain⟨u,w',rfl,⟨t,rfl⟩,⟨t',rfl⟩⟩:=vals2 r;refine min_two_ints (I.ok.hd hc) λh' tk k=>⟨_,H,I.kept k,?_,q⟩
 by_cases hj:j < i
 . rw[Fh hj,Fh hj];exact⟨_,rfl⟩
 . rw[Ee hj,Ee hj];exact⟨_,rfl⟩
theorem xV:ef X (.type "int") (λxs H Q=>(∃i,xs=[.int i]/\Q (.int i) H)∨∃k,xs=[.bl k]/\Q (.int (if k then 1 else 0)) H):=by
 intro pins s σ H xs us Q I r h;rcases h with ⟨i,rfl,q⟩ | ⟨k,rfl,q⟩
 . obtain⟨u,rfl,t,rfl⟩:=vals1 r;exact call_int_int ⟨.int i,H,I,⟨_,rfl⟩,q⟩
 . obtain⟨u,rfl,r1⟩:=vals1 r;cases r1;exact call_int_bool ⟨.int (if k then 1 else 0),H,I.tok _,⟨_,rfl⟩,q⟩
end
structure CB (h:Heap)(x dx C:Addr)(mA:Str->Option Value):Prop where
 obj:h.get? x=some (instObj C dx)
 ns:h.Ns1 dx mA
 ne:dx≠x
theorem Gq {mA:Str->Option Value}(n:h.Ns1 dx mA):∃od,h.get? dx=some od/\∀name,lookIn name od=some (mA name):=by
 obtain⟨o,es,ep,ho,hd,hk,_,hm⟩:=n;refine⟨o,ho,λname=>?_⟩;have e:=hm name;unfold nsFind findBy at e;rw[<- Array.find?_toList]at e;unfold lookIn;rw[hd];dsimp only;split
 . rename_i y q
   rw[q]at e;exact congrArg some e
 . rename_i q
   rw[q]at e;have a:es.toList.any (·.refKey)=false:=by
     rw[List.any_eq_false];intro y hy;obtain⟨z,t,hkey⟩:=hk y (Array.mem_toList_iff.mp hy);simp[DictEntry.refKey,hkey]
   have a':¬ es.toList.any (·.refKey)=true:=by rw[a];exact dr
   rw[Ee a'];exact congrArg some e
theorem CB.look {x:Addr}{mA:Str->Option Value}(I:CB h x dx C mA):∃od,PySem.W.InstAt h x (instObj C dx) C (some od)/\∀name,lookIn name od=some (mA name):=
 let ⟨od,ho,hl⟩:=Gq I.ns
 ⟨od,⟨I.obj,rfl,rfl,ho⟩,hl⟩
section
variable {K:Frag}{x f:Addr}{mA:Str->Option Value}{v:Value}
theorem get_map {expr:Bool}(X:K.In s.heap)(I:CB s.heap x dx C mA)(hg:plainGet K C name=true)(hh:hasDictIn K C=true)
   (ha:findIn K (.ref C) name=some none) (hv:mA name=some v) (hv':handedIn v=true) (h:Q v { s with toks:=s.toks + 1 }):
   wpAny (model prog w) A (getAttr (.ref x) name expr) Q E s:=by
 obtain⟨od,J,hl⟩:=I.look;exact PySem.W.get_value X J (vy hg).1 (PySem.W.findObj_own hh ha rfl (by rw[hl,hv])) hv' h
theorem IZ {Q:Value×List Value->Shared->Prop}(X:K.In s.heap)(I:CB s.heap x dx C mA)(hg:plainGet K C name=true)
   (hf:findIn K (.ref C) name=some (some (.ref f))) (ht:isFn K (.ref f)=true) (hv:mA name=none) (h:Q (.ref f,[.ref x]) s):
   wpAny (model prog w) A (getMethod (.ref x) name pl) Q E s:=by
 obtain⟨od,J,hl⟩:=I.look;exact PySem.W.method_fn X J (vy hg).1 (vy hg).2 hf (beq_iff_eq.mp ht) (by show(lookIn name od).map (·.isSome)=some false;rw[hl,hv];rfl) h
theorem MH {ns:List Str}{Q:Unit->Shared->Prop}(X:K.In s.heap)(I:CB s.heap x dx C mA)
   (hs:findIn K (.ref C) "__setattr__"=some (some (.builtin "object.__setattr__"))) (hp:plainOver K C=true) (ht:takerIn K C name=some none) (hh:hasDictIn K C=true)
   (hw:PySem.Within mA ns) (hsz:ns.length<=sizeLine)
   (h:∀h',CB h' x dx C (λy=>if y=name then some v else mA y)->Heap.SameBut dx s.heap h'->Q () { s with heap:=h',toks:=s.toks + 2 }):
   wpAny (model prog w) A (setAttr (.ref x) name v) Q E s:=by
 obtain⟨od,J,hl⟩:=I.look;refine PySem.W.set_plain X J hs (PySem.W.osa_open (s:={ s with toks:=s.toks + 1 }) (r:=none) X J hp ht λb=>?_);obtain⟨cd,hc,hd'⟩:=PySem.W.any_some hh;have hx:s.heap.get? x=some ⟨.ref C,some dx,.plain,#[]⟩:=I.obj;refine B1 (B2 (B1 (B1 (wpAny_loadPart hx (B1 (PySem.W.Looks.here (s:={ s with toks:=s.toks + 1 }) (PySem.W.looks_clsIn X hc) ?_))))));rw[hd'];refine B2 (a:=some dx) (B1 (B2 (B1 ?_)));refine wpAny_nsSet1 (s:={ s with toks:=s.toks + 1 }) I.ns λh' W7 IT=>?_;obtain⟨oD,esD,epD,ia,hdD,hcD⟩:=W7.count (PySem.Within.cons name v hw);refine B1 (wpAny_lookBehind ia (by rw[hdD];exact pastItsLine_dict (cn hcD (by rw[List.length_cons];omega))) ?_);exact B2 (h _ ⟨(IT.2 _ (Ne.symm I.ne)).trans I.obj,W7,I.ne⟩ IT)
theorem Ja {R:Result->Shared->Prop}{vs:List Value}(X:K.In s.heap)(hm:makesIn K C=true)
   (hi:findIn K (.ref C) "__init__"=some (some (.ref f))) (hf:typeIn K (.ref f)=some (.type "function"))
   (h:codeAny (model prog w) (A.under (.builtin "type.__call__" ⟨.ref C::vs,kw⟩)) (.call (.ref f) ⟨.ref (s.heap.objs.size + 1)::vs,kw⟩) (InitBack (s.heap.objs.size + 1) R)
     { s with heap:=(s.heap.push emptyDict).push (instObj C s.heap.objs.size) }):
   codeAny (model prog w) A (.call (.ref C) ⟨vs,kw⟩) R s:=by
 obtain⟨hh,g,d,t,os⟩:=s;exact PySem.W.make_core (PySem.W.makes_of X hm) (PySem.W.looks_findIn X hi) (λself=>PySem.W.bind_fn X self hf) (.inl rfl) h
end
def bC (f:Str)(v:V):List (Str×V)->List (Str×V)
 | []=>[(f,v)]
 | (g,x)::r=>if g=f then (g,v)::r else (g,x)::bC f v r
theorem sS (f g:Str)(v:V):∀fs:List (Str×V),(bC f v fs).lookup g=if g=f then some v else fs.lookup g
 | []=>by
   show List.lookup g [(f,v)]=_
   by_cases h:g=f
   . have hb:(g==f)=true:=beq_iff_eq.mpr h;simp only[List.lookup,hb,Fh h]
   . have hb:(g==f)=false:=beq_eq_false_iff_ne.mpr h;simp only[List.lookup,hb,Ee h]
 | (k,x)::r=>by
   have ih:=sS f g v r;rw[show bC f v ((k,x)::r)=(if k=f then (k,v)::r else (k,x)::bC f v r) from rfl]
   by_cases hk:k=f
   . rw[Fh hk]
     by_cases h:g=k
     . have hb:(g==k)=true:=beq_iff_eq.mpr h;simp only[List.lookup,hb,Fh (h.trans hk)]
     . have hb:(g==k)=false:=beq_eq_false_iff_ne.mpr h;simp only[List.lookup,hb,Ee (λe:g=f=>h (e.trans hk.symm))]
   . rw[Ee hk]
     by_cases h:g=k
     . have hb:(g==k)=true:=beq_iff_eq.mpr h;simp only[List.lookup,hb,Ee (λe:g=f=>hk (h.symm.trans e))]
     . have hb:(g==k)=false:=beq_eq_false_iff_ne.mpr h;simp only[List.lookup,hb];exact ih
theorem rL (f:Str)(v:V):∀fs:List (Str×V),f∈(bC f v fs).map (·.1)/\∀g,g∈fs.map (·.1)->g∈(bC f v fs).map (·.1)
 | []=>⟨by simp[bC],λg h=>by simp at h⟩
 | (k,x)::r=>by
   obtain⟨i1,i2⟩:=rL f v r;rw[show bC f v ((k,x)::r)=(if k=f then (k,v)::r else (k,x)::bC f v r) from rfl]
   by_cases hk:k=f
   . rw[Fh hk];subst hk;exact⟨by simp,λg h=>by simpa using h⟩
   . rw[Ee hk];refine⟨?_,λg h=>?_⟩
     . rw[List.map_cons];exact cx _ i1
     . rw[List.map_cons]at h ⊢;rcases List.mem_cons.mp h with e | e
       . exact List.mem_cons.mpr (.inl e)
       . exact cx _ (i2 g e)
theorem lP (f:Str)(v:V):∀fs:List (Str×V),(bC f v fs).length<=fs.length + 1
 | []=>by simp[bC]
 | (k,x)::r=>by
   have ih:=lP f v r;rw[show bC f v ((k,x)::r)=(if k=f then (k,v)::r else (k,x)::bC f v r) from rfl]
   by_cases hk:k=f
   . rw[Fh hk,List.length_cons,List.length_cons];omega
   . rw[Ee hk,List.length_cons,List.length_cons];omega
theorem oh.some_of {v:V}{o:Option Value}(r:oh (some v) o):∃u,o=some u/\RelV v u:=by
 cases o with
 | none=>exact(show False from r).elim
 | some u=>exact⟨u,rfl,r⟩
theorem oh.none_of {o:Option Value}(r:oh none o):o=none:=by
 cases o with
 | none=>rfl
 | some u=>exact(show False from r).elim
theorem Gr {v:V}(r:RelV v u):handedIn u=true:=by
 cases v with
 | bO=>cases(show u=Value.none from r);rfl
 | bl b=>cases(show u=Value.bool b from r);rfl
 | int i=>obtain⟨t,e⟩:=(show ∃t,u=Value.int i t from r);cases e;rfl
 | str x=>obtain⟨t,e⟩:=(show ∃t,u=Value.str x t from r);cases e;rfl
 | Ef b=>obtain⟨t,e⟩:=(show ∃t,u=Value.bytes b t from r);cases e;rfl
 | PY b=>obtain⟨t,e⟩:=(show ∃t,u=Value.float b t from r);cases e;rfl
 | ref a=>cases(show u=Value.ref a from r);rfl
 | ty n=>cases(show u=Value.type n from r);rfl
section
variable {H':Hp}{a:Addr}{fs Ut:List (Str×V)}
theorem um (c7:pB P w H h)(e:H a=some (.ins C dx fs)):∃mA,CB h a dx C mA/\(∀f,oh (fs.lookup f) (mA f))/\PySem.Within mA (fs.map (·.1))/\fs.length<=1000/\H dx=some (.own a):=by
 obtain⟨d,z,ne,ob,mA,n,r,q⟩:=(show cO P w H h a (.ins C dx fs) from c7 a _ e)
 exact⟨mA,⟨ob,n,ne⟩,r,q,z,d⟩
end
structure uo (K:Frag)(C:Addr):Prop where
 pg:plainGet K C Str.empty=true
 hd:hasDictIn K C=true
 po:plainOver K C=true
 sa:findIn K (.ref C) "__setattr__"=some (some (.builtin "object.__setattr__"))
theorem uo.get {K:Frag}(c:uo K C)(f:Str):plainGet K C f=true:=c.pg
def bK (K:Frag)(C:Addr)(f:Str):Prop:=findIn K (.ref C) f=some none
theorem bK.UH {K:Frag}{f:Str}(n:bK K C f):takerIn K C f=some none:=by
 unfold takerIn;rw[show findIn K (.ref C) f=some none from n];rfl
structure Meth (K:Frag)(C:Addr)(m:Str)(f:Addr):Prop where
 at_:findIn K (.ref C) m=some (some (.ref f))
 fn:isFn K (.ref f)=true
 kp:keepIn K (.ref f)=true
section
variable {a:Addr}{fs:List (Str×V)}{f:Str}{v:V}
theorem CC {b:Bool}(I:Inv X pins σ H s)(e:H a=some (.ins C dx fs))(c:uo X.K C)(n:bK X.K C f)(l:fs.lookup f=some v)
   (h:∀u s',Inv X pins σ H s'->RelV v u->Q u s'):wpAny (model X.prog X.w) A (getAttr (.ref a) f b) Q E s:=by
 obtain⟨mA,O,r,_,_,_⟩:=um I.c7 e;obtain⟨u,hu,ru⟩:=oh.some_of (v:=v) (o:=mA f) (by rw[<- l];exact r f);exact get_map I.qd O (c.get f) c.hd n hu (Gr ru) (h u _ (I.tok _) ru)
theorem pJ {g:Addr}{Q:Value×List Value->Shared->Prop}(I:Inv X pins σ H s)(e:H a=some (.ins C dx fs))(c:uo X.K C)(k:Meth X.K C m g)(l:fs.lookup m=none)
   (h:Q (.ref g,[.ref a]) s):wpAny (model X.prog X.w) A (getMethod (.ref a) m pl) Q E s:=by
 obtain⟨mA,O,r,_,_,_⟩:=um I.c7 e;have hn:mA m=none:=oh.none_of (by rw[<- l];exact r m);exact IZ I.qd O (c.get m) k.at_ k.fn hn h
theorem CD {y:V}{Q:Unit->Shared->Prop}(I:Inv X pins σ H s)(e:H a=some (.ins C dx fs))(c:uo X.K C)(n:bK X.K C f)(hl:fs.length < 1000)(ry:RelV y u)
   (h:∀s',Inv X pins σ (upd H a (.ins C dx (bC f y fs))) s'->Q () s'):wpAny (model X.prog X.w) A (setAttr (.ref a) f u) Q E s:=by
 obtain⟨mA,O,r,wi,_,ho⟩:=um I.c7 e;have hz:(fs.map (·.1)).length<=sizeLine:=by rw[ab,NA];omega
 refine MH I.qd O c.sa c.po n.UH c.hd wi hz λh' O' sb=>h _ ?_;have hd:∃o,h'.get? dx=some o:=let ⟨o,_,_,e',_⟩:=O'.ns;⟨o,e'⟩;refine I.write (x:=a) (e:=dx) (by rw[e];exact True.intro) (.inr ho) (λb q hb z=>(sb.2 b hb).trans z) hd ?_;refine⟨by rw[au O.ne];exact ho,?_,O.ne,O'.obj,_,O'.ns,λg=>?_,λg hg=>?_⟩
 . have:=lP f y fs;omega
 . show oh ((bC f y fs).lookup g) (if g=f then some u else mA g);rw[sS]
   by_cases q:g=f
   . rw[Fh q,Fh q];exact ry
   . rw[Ee q,Ee q];exact r g
 . by_cases q:g=f
   . rw[q];exact(rL f y fs).1
   . refine(rL f y fs).2 g (wi g λz=>hg ?_);show(if g=f then some u else mA g)=none;rw[Ee q];exact z
theorem Inv.made (I:Inv X pins σ H s):Inv X pins σ (upd (upd H s.heap.objs.size (.own (s.heap.objs.size + 1))) (s.heap.objs.size + 1) (.ins C s.heap.objs.size []))
   { s with heap:=(s.heap.push emptyDict).push (instObj C s.heap.objs.size) }:=by
 have e1:(s.heap.push emptyDict).get? s.heap.objs.size=some emptyDict:=cb s.heap rfl;have e2:((s.heap.push emptyDict).push (instObj C s.heap.objs.size)).get? (s.heap.objs.size + 1)=some (instObj C s.heap.objs.size):=by
   have:=cb (s.heap.push emptyDict) (o:=instObj C s.heap.objs.size) rfl
   rwa [eC]at this
 have e3:(s.heap.push emptyDict).Ns s.heap.objs.size (λ_=>none):=⟨emptyDict,#[],_,e1,rfl,(λe he=>absurd he RR),λ_=>rfl⟩
 have I1:=I.laid (a:=s.heap.objs.size) (o:=.own (s.heap.objs.size + 1)) (h':=s.heap.push emptyDict) (t':=s.toks) (λb u q=>ae _ q) (ar _) ⟨_,e1⟩;refine I1.laid (a:=s.heap.objs.size + 1) (o:=.ins C s.heap.objs.size []) (t':=s.toks) (λb u q=>ae _ q) (xv (eC _ _)) ?_;have ne:s.heap.objs.size≠s.heap.objs.size + 1:=cv (i4 _);refine⟨by rw[au ne,af],hU _,ne,e2,λ_=>none,(Heap.Ns1.of_empty e3).at λo q=>ae _ q,λ_=>True.intro,λy hy=>absurd rfl hy⟩
theorem MJ {env:Env}{f:Str}(hb:attributeBase e f env (eval e env)=eval e env)
   (h:wpAny (model prog w) A (eval e env) (λo s₁=>wpAny (model prog w) A (getAttr o f true) Q E s₁) E s):wpAny (model prog w) A (eval (.Attribute e f pos) env) Q E s:=
 Attribute_any_ h (by rw[arm_eval_Attribute,hb])
end
def Jb (K:Frag)(ta:TE)(f:Str):TE:=λσ H Q=>ta σ H λx H1=>∃a C dx fs v,x=.ref a/\H1 a=some (.ins C dx fs)/\uo K C/\bK K C f/\fs.lookup f=some v/\Q v H1
def MK (K:Frag)(ta tv:TE)(f:Str):TS:=λD σ H=>tv σ H λy H1=>ta σ H1 λx H2=>∃a C dx fs,x=.ref a/\H2 a=some (.ins C dx fs)/\uo K C/\bK K C f/\fs.length < 1000/\
 D.nx σ (upd H2 a (.ins C dx (bC f y fs)))
def ML (K:Frag)(ta tv:TE)(rd:V->V->Hp->VK->Prop)(f:Str):TS:=λD σ H=>ta σ H λx H1=>∃a C dx fs v,x=.ref a/\H1 a=some (.ins C dx fs)/\uo K C/\bK K C f/\fs.lookup f=some v/\
 tv σ H1 λy H2=>rd v y H2 λz H3=>∃dx' Ut,H3 a=some (.ins C dx' Ut)/\Ut.length < 1000/\D.nx σ (upd H3 a (.ins C dx' (bC f z Ut)))
section
variable {o value:Expr}{f:Str}{UI:Pos}{tv:TE}
theorem Qy (he:PE X e ta)(hb:attributeBase e f X.env (eval e X.env)=eval e X.env):PE X (.Attribute e f pos) (Jb X.K ta f):=by
 intro pins s σ H Q I h;refine MJ hb (bI (he pins s σ H _ I h) λu s1 ⟨x,H1,I1,rx,a,C,dx,fs,v,ex,ea,c,n,l,q⟩=>?_);subst ex;obtain rfl:u=Value.ref a:=rx;exact CC I1 ea c n l λu' s2 I2 ru=>⟨v,H1,I2,ru,q⟩
theorem Qz (ha:PE X o ta)(hv:PE X value tv)(hs:swapsWith value (some (.Attribute o f pos')) pos.line X.env=pure false):PS X (.Assign [.Attribute o f pos'] value pos) (MK X.K ta tv f):=by
 intro pins s σ H D I h;refine plainObj_wpAny_Assign_Attribute (bI (hv pins s σ H _ I h) λu s1 ⟨y,H1,I1,ry,q⟩=>bI (ha pins s1 σ H1 _ I1 q) λov s2 ⟨x,H2,I2,rx,a,C,dx,fs,ex,ea,c,n,l,q2⟩=>?_) hs;subst ex;obtain rfl:ov=Value.ref a:=rx;exact CD I2 ea c n l ry λs3 I3=>⟨σ,_,I3,q2⟩
end
section
variable {c:Value}{b:Bool}
inductive oE (K:Frag)(H:Hp):V->Value->Prop where
 | bO:oE K H .bO (.type "NoneType")
 | bl (x:Bool):oE K H (.bl x) (.type "bool")
 | int (i:Int):oE K H (.int i) (.type "int")
 | str (x:Str):oE K H (.str x) (.type "str")
 | PY (x:UInt64):oE K H (.PY x) (.type "float")
 | lst {a:Addr}{xs:List V}(e:H a=some (.lst xs)):oE K H (.ref a) (.type "list")
 | sP {a:Addr}{o:Obj}{xs:List V}(e:H a=some (.sP o (.lst xs))):oE K H (.ref a) (.type "list")
 | tup {a:Addr}{xs:List V}(e:H a=some (.tup xs)):oE K H (.ref a) (.type "tuple")
 | dK {a:Addr}{aA:List (Key×V)}(e:H a=some (.dK aA)):oE K H (.ref a) (.type "dict")
 | dT {a:Addr}{aA:List (List Key×V)}(e:H a=some (.dT aA)):oE K H (.ref a) (.type "dict")
 | ins {a C dx:Addr}{fs:List (Str×V)}(e:H a=some (.ins C dx fs)) (cl:uo K C) (ha:findIn K (.ref C) "__class__"=some (some (.builtin "object.__class__")))
     (hn:PySem.W.specialIn K (.builtin "object.__class__") "__get__"=some (some (.builtin "getset_descriptor.__get__"))) (htk:PySem.W.takesIn K (.builtin "object.__class__")=some true)
     (hm:PySem.W.mroIn K C (.type "object")=some true):oE K H (.ref a) (.ref C)
theorem xW {x:V}{t:Value}(I:Inv X pins σ H s)(rx:RelV x u)(ty:oE X.K H x t)(e:kitOne X.K t c=some b)(h:∀tk,Q (.bool b) { s with toks:=tk }):
   wpAny (model X.prog X.w) A (call (.builtin "isinstance") [u,c]) Q E s:=by
 cases ty with
 | bO=>cases(show u=Value.none from rx);exact il PySem.W.kitx_none I.qd True.intro e (λz=>nomatch z) h
 | bl y=>cases(show u=Value.bool y from rx);exact il PySem.W.kitx_bool I.qd True.intro e (λz=>nomatch z) h
 | int i=>obtain⟨t,q⟩:=(show ∃t,u=Value.int i t from rx);cases q;exact il PySem.W.kitx_int I.qd True.intro e (λz=>nomatch z) h
 | str y=>obtain⟨t,q⟩:=(show ∃t,u=Value.str y t from rx);cases q;exact il PySem.W.kitx_str I.qd True.intro e (λz=>nomatch z) h
 | PY y=>obtain⟨t,q⟩:=(show ∃t,u=Value.float y t from rx);cases q;exact il PySem.W.kitx_float I.qd True.intro e (λz=>nomatch z) h
 | @lst a xs ea=>
   cases(show u=Value.ref a from rx);obtain⟨_,_,n,_,h1⟩:=(show cO X.prog X.w H s.heap a (.lst xs) from I.c7 a _ ea)
   exact il PySem.W.kitx_list I.qd ⟨_,h1,rfl⟩ e (λz=>nomatch z) h
 | @sP a ob xs ea=>
   cases(show u=Value.ref a from rx);obtain⟨_,_,_,n,_,h1⟩:=(show cO X.prog X.w H s.heap a (.sP ob (.lst xs)) from I.c7 a _ ea)
   exact il PySem.W.kitx_list I.qd ⟨_,h1,rfl⟩ e (λz=>nomatch z) h
 | @tup a xs ea=>
   cases(show u=Value.ref a from rx);obtain⟨_,_,_,p⟩:=(show cO X.prog X.w H s.heap a (.tup xs) from I.c7 a _ ea)
   obtain⟨o,h1,h2,_⟩:=p;exact il PySem.W.kitx_tuple I.qd ⟨o,h1,h2⟩ e (λz=>nomatch z) h
 | @dK a aA ea=>
   cases(show u=Value.ref a from rx);obtain⟨_,_,vs,_,p⟩:=(show cO X.prog X.w H s.heap a (.dK aA) from I.c7 a _ ea)
   obtain⟨o,es,ep,h1,h2,_⟩:=p;exact il PySem.W.kitx_dict I.qd ⟨o,h1,h2.1⟩ e (λz=>nomatch z) h
 | @dT a aA ea=>
   cases(show u=Value.ref a from rx);obtain⟨_,_,xs,_,o,es,ep,h1,h2,_⟩:=(show cO X.prog X.w H s.heap a (.dT aA) from I.c7 a _ ea)
   exact il PySem.W.kitx_dict I.qd ⟨o,h1,h2.1⟩ e (λz=>nomatch z) h
 | @ins a C dx fs ea cl ha hn htk hm=>
   cases(show u=Value.ref a from rx);obtain⟨mA,O,_⟩:=um I.c7 ea;obtain⟨od,J,_⟩:=O.look;exact il (PySem.W.kitx_own (cl.get _) cl.hd ha hn htk hm) I.qd J e (λz=>nomatch z) h
end
structure dB (k:Nat)(A:Around):Prop where
 hd:A.handled=none
 dp:A.depth + 3 * k + 5 < recursionLimit
 un:A.units + 16 * k + 200 < cLine
 gd:A.guards=some []
theorem dB.mono {j k:Nat}(r:dB k A)(h:j<=k):dB j A:=⟨r.hd,by have:=r.dp;omega,by have:=r.un;omega,r.gd⟩
theorem dB.deeper {k:Nat}(r:dB (k + 1) A)(env:Env):dB k (A.deeper env):=
 ⟨r.hd,by have:=r.dp;show A.depth + 1 + 3 * k + 5 < _;omega,by have:=r.un;show A.units + 3 + 16 * k + 200 < _;omega,r.gd⟩
theorem CG :(A.under (.builtin "type.__call__" ⟨.ref C::us,kw⟩)).depth=A.depth + 1:=by
 first | rfl | simp[Around.under,Code.weight,Code.isCreation,Code.isGuard,Code.isCaller,Code.frames,Code.isFrame,guardIds]
theorem CH :(A.under (.builtin "type.__call__" ⟨.ref C::us,kw⟩)).units=A.units + 1:=by
 first | rfl | simp[Around.under,Code.cUnits,Code.frames,Code.isFrame]
theorem dB.make {k:Nat}(r:dB (k + 1) A)(C:Addr)(us:List Value)(kw:List (Str×Value)):dB k (A.under (.builtin "type.__call__" ⟨.ref C::us,kw⟩)):=
 ⟨r.hd,by have:=r.dp;rw[CG];omega,by have:=r.un;rw[CH];omega,by have:=r.gd;first | exact this | simpa[Around.under,Code.guards,Code.isGuard,pushGuards,guardIds] using this⟩
theorem dB.depth {k:Nat}(r:dB k A):A.depth < recursionLimit:=by have:=r.dp;omega
theorem dB.units {k:Nat}(r:dB k A):A.units + 64 < cLine:=by have:=r.un;omega
def wQ:TA:=λ_ H Q=>Q [] H
def qi (ta:TE)(tr:TA):TA:=λσ H Q=>ta σ H λx H1=>tr σ H1 λxs H2=>Q (x::xs) H2
section
variable {t:TA}
theorem QA:PA X [] wQ:=λ_ _ _ _ H Q I h=>Calls.spliced_nil ⟨[],H,I,.nil,h⟩
theorem MM (ha:PE X e te)(hr:PA X es t)(hs:starEach (e::es) X.env=(false,eval e X.env)::starEach es X.env:=by rfl):PA X (e::es) (qi te t):=by
 intro pos pins s σ H Q I h;rw[hs];show wpAny _ _ (spliced ((false,eval e X.env)::backTo pos (starEach es X.env))) _ _ s;refine Calls.spliced_cons (bI (ha pins s σ H _ I h) λu s1 ⟨x,H1,I1,r1,q1⟩=>?_);exact bI (hr pos pins s1 σ H1 _ I1 q1) λus s2 ⟨xs,H2,I2,r2,q2⟩=>⟨x::xs,H2,I2,.cons r1 r2,q2⟩
def Yr (t:TA):TE:=λσ H Q=>t σ H λxs H1=>xs.length<=sizeLine/\∀p,H1 p=none->Q (.ref p) (upd H1 p (.tup xs))
def Yt (t:TA):TE:=λσ H Q=>t σ H λxs H1=>xs.length<=sizeLine/\∀p,H1 p=none->Q (.ref p) (upd H1 p (.lst xs))
end
abbrev Sp:=List V->Hp->VK->XK->Prop
abbrev AO:=List Env->Hp->Shared->XK->Value->Shared->Prop
structure CJ (P:Program)(w:World)(K:Frag)(mg:Str->Option Value)(base:Heap)(A:Around)(outer:List Env)(s:Shared)(H:Hp):Prop where
 frames:A.frames=some outer
 mod:Mod K mg base
 bs:∀b o,base.get? b=some o->s.heap.get? b=some o/\H b=none
 Ma:base.objs.size<=s.heap.objs.size
 rJ:s.heap.FunFrames base outer
 OB:∀b∈Cd outer,H b=none
 c7:pB P w H s.heap
 bare:AllBare s.gens
def CE (outer:List Env)(P:Program)(w:World)(H:Hp)(s:Shared)(Q:VK)(u:Value)(s':Shared):Prop:=
 ∃v H',s'.os=s.os/\AllBare s'.gens/\Un (Cd outer) [] H H' s.heap s'.heap/\pB P w H' s'.heap/\RelV v u/\Q v H'
def CR (CX:AO)(outer:List Env)(P:Program)(w:World)(H:Hp)(s:Shared)(Q:VK)(E:XK)(r:Result)(s':Shared):Prop:=
 match r with
 | .ok (.ret u)=>CE outer P w H s Q u s'
 | .ok _=>False
 | .error e=>CX outer H s E e s'
structure dH (P:Program)(w:World)(K:Frag)(mg:Str->Option Value)(base:Heap)(CX:AO)(k:Nat)(f:Addr)(fd:FuncData)(ps:List Str)(sp:Sp):Prop where
 len:∀vs H Q E,sp vs H Q E->vs.length=ps.length
 run:∀(A:Around) (outer:List Env) (s:Shared) (H:Hp) (args:Args) (us:List Value) (vs:List V) (Q:VK) (E:XK),dB k A->CJ P w K mg base A outer s H->BindsTo s fd args (ps.zip us)->Vals vs us->sp vs H Q E->
   codeAny (model P w) A (.call (.ref f) args) (CR CX outer P w H s Q E) s
theorem CJ.make {K:Frag}(e:CJ P w K mg base A outer s H)(C:Addr)(us:List Value)(kw:List (Str×Value)):
   CJ P w K mg base (A.under (.builtin "type.__call__" ⟨.ref C::us,kw⟩)) outer s H:=⟨by first | exact e.frames | (simpa[Around.under,Code.envs,Code.isFrame,pushEnvs] using e.frames),e.mod,e.bs,e.Ma,e.rJ,e.OB,e.c7,e.bare⟩
theorem Inv.QB (I:Inv X pins σ H s):CJ X.prog X.w X.K X.mg X.base X.A X.stack s H:=
 ⟨I.ok.frames,I.ok.mod,I.bs,cn I.ok.Ma I.sz,I.stack,I.Eg,I.c7,I.bare⟩
theorem Inv.after {Q:VK}(I:Inv X pins σ H s)(h:CE X.stack X.prog X.w H s Q u s'):EP X pins σ Q u s':=by
 obtain⟨v,H',os,bare,un,c7,r,q⟩:=h;obtain⟨hh,g,d,t,os'⟩:=s';obtain rfl:os'=s.os:=os;exact⟨v,H',I.call (h':=hh) (g':=g) (d':=d) (t':=t) (ch:=[]) un c7 bare (λb z=>absurd z RR),r,q⟩
def xX (sp:Sp)(jW:List V)(E:XK)(t:TA):TE:=λσ H Q=>t σ H λvs H1=>sp (vs++jW) H1 Q E
def xY (C:Addr)(m:Str)(sp:Sp)(jW:List V)(E:XK)(ta:TE)(t:TA):TE:=λσ H Q=>ta σ H λx H1=>∃a dx fs,x=.ref a/\H1 a=some (.ins C dx fs)/\fs.lookup m=none/\
 t σ H1 λvs H2=>sp (x::(vs++jW)) H2 Q E
def Binds (K:Frag)(fd:FuncData)(ps:List Str)(ds:List Value):Prop:=
 ∀(s:Shared) (us:List Value),K.In s.heap->(us++ds).length=ps.length->BindsTo s fd ⟨us,[]⟩ (ps.zip (us++ds))
theorem Binds.all {K:Frag}(h:∀us:List Value,us.length=ps.length->bindArgs fd ⟨us,[]⟩=pure (ps.zip us)):Binds K fd ps []:=λs us _ hl=>by
 rw[List.append_nil]at hl ⊢;exact .of_eq (h us hl)
def Passes (CX:AO)(X:Cx)(E:XK):Prop:=∀(pins:List (Addr×Obj)) (σ:St) (H:Hp) (s:Shared) (e:Value) (s':Shared),Inv X pins σ H s->CX X.stack H s E e s'->X.xe e s'
section
variable {CX:AO}{k:Nat}{f:Addr}{sp:Sp}{jW:List V}{ds:List Value}{E:XK}{p apos:Pos}{o:Expr}{t:TA}
theorem CK {Q:VK}(F:dH X.prog X.w X.K X.mg X.base CX k f fd ps sp)(hr:dB k X.A)(hb:Binds X.K fd ps ds)(hd:Vals jW ds)(hx:Passes CX X E)
   (I:Inv X pins σ H s) (r:Vals vs us) (h:sp (vs++jW) H Q E):wpAny (model X.prog X.w) X.A (call (.ref f) us) (EP X pins σ Q) X.xe s:=by
 have r2:Vals (vs++jW) (us++ds):=r.append hd;have hl:(us++ds).length=ps.length:=by rw[<- r2.length];exact F.len _ _ _ _ h
 refine wpAny_call (Kt (F.run X.A X.stack s H ⟨us,[]⟩ (us++ds) (vs++jW) Q E hr I.QB (hb s us I.qd hl) r2 h) λr s' hq=>?_);cases r with
 | error e=>exact hx pins σ H s e s' I hq
 | ok fl=>
   cases fl with
   | ret u=>exact I.after hq
   | next=>exact False.elim hq
   | brk=>exact False.elim hq
   | cont=>exact False.elim hq
theorem MN (F:dH X.prog X.w X.K X.mg X.base CX k f fd ps sp)(hr:dB k X.A)(hg:Gl X x)(hm:X.mg x=some (.ref f))(hk:keepIn X.K (.ref f)=true)(hb:Binds X.K fd ps ds)(hd:Vals jW ds)(hx:Passes CX X E)
   (ha:PA X (e::es) t) (wR:(x==("__debug__":Str))=false:=by decide) (he:starEach (e::es) X.env=(false,eval e X.env)::starEach es X.env:=by rfl) (nu:(backTo pos (starEach es X.env)).any (·.1)=false:=by rfl):
   PE X (.Call (.Name x p) (e::es) [] pos) (xX sp jW E t):=by
 intro pins s σ H Q I h;refine FV (uh I hg hm ?_ wR);refine wq (h₀:=X.base) I.ok.mod.Ms hk (bI (ha pos pins s σ H _ I h) λus s1 ⟨vs,H1,I1,r,q⟩=>⟨I1.qd,?_⟩) he nu;exact CK F hr hb hd hx I1 r q
theorem MO (he:PE X o ta)(c:uo X.K C)(hm:Meth X.K C m f)(F:dH X.prog X.w X.K X.mg X.base CX k f fd ps sp)(hr:dB k X.A)(hb:Binds X.K fd ps ds)(hd:Vals jW ds)(hx:Passes CX X E)(ha:PA X (e::es) t)
   (Cv:starEach (e::es) X.env=(false,eval e X.env)::starEach es X.env:=by rfl) (nu:(backTo pos (starEach es X.env)).any (·.1)=false:=by rfl)
   (ht:eval (.Call (.Attribute o m apos) (e::es) [] pos) X.env=(do
     let ov <- eval o X.env
     standAt apos.atName
     let (f,first) <- holding [ov] (getMethod ov m pl)
     callWith pos f first (backTo pos (starEach (e::es) X.env)) (backToKw pos (keywordEach [] X.env))):=by rfl):
   PE X (.Call (.Attribute o m apos) (e::es) [] pos) (xY C m sp jW E ta t):=by
 intro pins s σ H Q I h;refine ub (pl:=pl) (bI (he pins s σ H _ I h) λu s1 ⟨x,H1,I1,rx,a,dx,fs,ex,ea,l,q⟩=>?_) ht;subst ex;obtain rfl:u=Value.ref a:=rx;refine pJ I1 ea c hm l ?_;refine wq (first:=[.ref a]) (h₀:=X.base) I.ok.mod.Ms hm.kp (bI (ha pos pins s1 σ H1 _ I1 q) λus s2 ⟨vs,H2,I2,r,q2⟩=>⟨I2.qd,?_⟩) Cv nu;exact CK (us:=.ref a::us) (vs:=.ref a::vs) F hr hb hd hx I2 (.cons rfl r) q2
theorem Jc (he:PE X o ta)(c:uo X.K C)(hm:Meth X.K C m f)(F:dH X.prog X.w X.K X.mg X.base CX k f fd ps sp)(hr:dB k X.A)(hb:Binds X.K fd ps ds)(hd:Vals jW ds)(hx:Passes CX X E)
   (ht:eval (.Call (.Attribute o m apos) [] [] pos) X.env=(do
     let ov <- eval o X.env
     standAt apos.atName
     let (f,first) <- holding [ov] (getMethod ov m pl)
     callWith pos f first (backTo pos (starEach [] X.env)) (backToKw pos (keywordEach [] X.env))):=by rfl):
   PE X (.Call (.Attribute o m apos) [] [] pos) (xY C m sp jW E ta wQ):=by
 intro pins s σ H Q I h;refine ub (pl:=pl) (bI (he pins s σ H _ I h) λu s1 ⟨x,H1,I1,rx,a,dx,fs,ex,ea,l,q⟩=>?_) ht;subst ex;obtain rfl:u=Value.ref a:=rx;refine pJ I1 ea c hm l ?_;exact PySem.W.callWith_K0 (first:=[.ref a]) I1.qd hm.kp (CK (us:=[.ref a]) (vs:=[.ref a]) F hr hb hd hx I1 (.cons rfl .nil) q)
structure Mk (K:Frag)(C f:Addr):Prop where
 makes:makesIn K C=true
 init:findIn K (.ref C) "__init__"=some (some (.ref f))
 fn:isFn K (.ref f)=true
 kp:keepIn K (.ref C)=true
end
def PK (X:Cx)(rB:List Keyword)(t:TA):Prop:=
 ∀(pos:Pos) (pins:List (Addr×Obj)) (s:Shared) (σ:St) (H:Hp) (Q:List V->Hp->Prop),Inv X pins σ H s->t σ H Q->wpAny (model X.prog X.w) X.A (evalAll ((backToKw pos (keywordEach rB X.env)).map (·.2))) (AP X pins σ Q) X.xe s
section
variable {CX:AO}{k:Nat}{f:Addr}{ks:List Str}{sp:Sp}{E:XK}{p apos QC:Pos}{o:Expr}{rB:List Keyword}{t tk:TA}{nm:Option Str}
theorem QD:PK X [] wQ:=λ_ _ _ _ H Q I h=>wpAny_evalAll_nil ⟨[],H,I,.nil,h⟩
theorem MP (ha:PE X e te)(hr:PK X rB t):PK X (⟨nm,e,QC⟩::rB) (qi te t):=by
 intro pos pins s σ H Q I h;show wpAny _ _ (evalAll ((do let v <- eval e X.env;standAt pos;pure v)::(backToKw pos (keywordEach rB X.env)).map (·.2))) _ _ s;refine wpAny_evalAll_cons (B1 (bI (ha pins s σ H _ I h) λu s1 ⟨x,H1,I1,r1,q1⟩=>B1 (Hm (B2 ?_))));exact bI (hr pos pins s1 σ H1 _ I1 q1) λus s2 ⟨xs,H2,I2,r2,q2⟩=>⟨x::xs,H2,I2,.cons r1 r2,q2⟩
structure rM (K:Frag)(fd:FuncData)(ps ks:List Str)(g:List Value->List Value->List Value)(gV:List V->List V->List V):Prop where
 to:∀(s:Shared) (us ws:List Value),K.In s.heap->(g us ws).length=ps.length->BindsTo s fd ⟨us,ks.zip ws⟩ (ps.zip (g us ws))
 rel:∀{vs:List V}{us:List Value}{zs:List V}{ws:List Value},Vals vs us->Vals zs ws->Vals (gV vs zs) (g us ws)
def CL (sp:Sp)(gV:List V->List V->List V)(E:XK)(t tk:TA):TE:=λσ H Q=>t σ H λvs H1=>tk σ H1 λzs H2=>sp (gV vs zs) H2 Q E
variable {g:List Value->List Value->List Value}{gV:List V->List V->List V}
theorem Eo {Q:VK}{ws:List Value}{zs:List V}(F:dH X.prog X.w X.K X.mg X.base CX k f fd ps sp)(hr:dB k X.A)(hb:rM X.K fd ps ks g gV)(hx:Passes CX X E)
   (I:Inv X pins σ H s) (r:Vals vs us) (rz:Vals zs ws) (h:sp (gV vs zs) H Q E):wpAny (model X.prog X.w) X.A (call (.ref f) us (ks.zip ws)) (EP X pins σ Q) X.xe s:=by
 have r2:=hb.rel r rz;have hl:(g us ws).length=ps.length:=by rw[<- r2.length];exact F.len _ _ _ _ h
 refine wpAny_call (Kt (F.run X.A X.stack s H ⟨us,ks.zip ws⟩ (g us ws) (gV vs zs) Q E hr I.QB (hb.to s us ws I.qd hl) r2 h) λr s' hq=>?_);cases r with
 | error e=>exact hx pins σ H s e s' I hq
 | ok fl=>
   cases fl with
   | ret u=>exact I.after hq
   | next=>exact False.elim hq
   | brk=>exact False.elim hq
   | cont=>exact False.elim hq
theorem Jd (F:dH X.prog X.w X.K X.mg X.base CX k f fd ps sp)(hr:dB k X.A)(hg:Gl X x)(hm:X.mg x=some (.ref f))(hk:keepIn X.K (.ref f)=true)(hb:rM X.K fd ps ks g gV)(hx:Passes CX X E)
   (ha:PA X (e::es) t) (UJ:PK X rB tk) (zg:(backToKw pos (keywordEach rB X.env)).all (·.1.isSome)=true:=by rfl) (Je:(backToKw pos (keywordEach rB X.env)).filterMap (·.1)=ks:=by rfl)
   (wR:(x==("__debug__":Str))=false:=by decide) (he:starEach (e::es) X.env=(false,eval e X.env)::starEach es X.env:=by rfl)
   (nu:((backTo pos (starEach (e::es) X.env)).any (·.1)||(backToKw pos (keywordEach rB X.env)).any (·.1.isNone))=false:=by rfl):
   PE X (.Call (.Name x p) (e::es) rB pos) (CL sp gV E t tk):=by
 intro pins s σ H Q I h;refine FV (uh I hg hm ?_ wR);refine PySem.W.callWith_KW (h₀:=X.base) I.ok.mod.Ms hk zg (bI (ha pos pins s σ H _ I h) λus s1 ⟨vs,H1,I1,r,q⟩=>?_) nu he;refine bI (UJ pos pins s1 σ H1 _ I1 q) λws s2 ⟨zs,H2,I2,rz,q2⟩=>⟨I2.qd,?_⟩
 rw[Je];exact Eo F hr hb hx I2 r rz q2
end
structure eg (N P:List Str)(sc:Scope):Prop where
 kind:sc.kind=.function
 co:sc.isCoroutine=false
 gen:sc.isGenerator=false
 nd:N.Nodup
 pre:N.take P.length=P
 par:∀x∈P,sc.names.lookup x=some .local∨sc.names.lookup x=some .cell
 QE:∀y∈sc.names,y.2≠.free
theorem ya {kindOf:Str->Option NameKind}{x:Str}:∀{binds:List (Str×Value)}{m:Str->Option Value},(∀v,(x,v)∉binds)->bindL kindOf binds m x=m x
 | [],_,_=>rfl
 | (n,v)::r,m,h=>by
   unfold bindL;rw[ya λw hw=>h w (cx _ hw)];split
   . have:x≠n:=by rintro rfl;exact h v dq
     simp[this]
   . rfl
theorem yb {kindOf:Str->Option NameKind}{x:Str}:∀{binds:List (Str×Value)}{m:Str->Option Value},(∀v,(x,v)∉binds)->bindC kindOf binds m x=m x
 | [],_,_=>rfl
 | (n,v)::r,m,h=>by
   unfold bindC;rw[yb λw hw=>h w (cx _ hw)];split
   . rfl
   . have:x≠n:=by rintro rfl;exact h v dq
     simp[this]
theorem yc {kindOf:Str->Option NameKind}{x:Str}{v:Value}:∀{P:List Str}{vs:List Value}{i:Nat}{m:Str->Option Value},P.Nodup->P[i]?=some x->vs[i]?=some v->kindOf x=some .local->
   bindL kindOf (P.zip vs) m x=some v
 | [],_,_,_,_,h,_,_=>by simp at h
 | _::_,[],_,_,_,_,h,_=>by simp at h
 | p::P,w::vs,0,m,nd,h1,h2,hk=>by
   simp at h1 h2;subst h1;subst h2;show bindL kindOf ((p,w)::P.zip vs) m p=_;unfold bindL;rw[ya λv hv=>(List.nodup_cons.mp nd).1 (Bn hv).1,Fh hk];simp
 | p::P,w::vs,i + 1,m,nd,h1,h2,hk=>by
   show bindL kindOf ((p,w)::P.zip vs) m x=_;unfold bindL;exact yc (i:=i) (List.nodup_cons.mp nd).2 (by simpa using h1) (by simpa using h2) hk
theorem yd {kindOf:Str->Option NameKind}{x:Str}{v:Value}:∀{P:List Str}{vs:List Value}{i:Nat}{m:Str->Option Value},P.Nodup->P[i]?=some x->vs[i]?=some v->kindOf x≠some .local->
   bindC kindOf (P.zip vs) m x=some v
 | [],_,_,_,_,h,_,_=>by simp at h
 | _::_,[],_,_,_,_,h,_=>by simp at h
 | p::P,w::vs,0,m,nd,h1,h2,hk=>by
   simp at h1 h2;subst h1;subst h2;show bindC kindOf ((p,w)::P.zip vs) m p=_;unfold bindC;rw[yb λv hv=>(List.nodup_cons.mp nd).1 (Bn hv).1,Ee hk];simp
 | p::P,w::vs,i + 1,m,nd,h1,h2,hk=>by
   show bindC kindOf ((p,w)::P.zip vs) m x=_;unfold bindC;exact yd (i:=i) (List.nodup_cons.mp nd).2 (by simpa using h1) (by simpa using h2) hk
def start (N:List Str)(vs:List V):St:=vs.map some++List.replicate (N.length - vs.length) none
def qj (CX:AO)(P:Program)(w:World)(K:Frag)(mg:Str->Option Value)(base:Heap)(N:List Str)(qual:Str)(scope:Scope)(f:Addr)(cd:Value)(A:Around)(outer:List Env)(s:Shared)(H:Hp)(E:XK):Cx where
 prog:=P
 w:=w
 K:=K
 mg:=mg
 base:=base
 A:=A.deeper (envOfC qual scope s.heap.objs.size f cd)
 N:=N
 s₀:=s
 H₀:=H
 env:=envOfC qual scope s.heap.objs.size f cd
 outer:=outer
 stack:=envOfC qual scope s.heap.objs.size f cd::outer
 ex:=[]
 calm:=true
 fn:=λ_=>true
 pn:=[]
 xe:=λe s'=>wpAny (model P w) (A.deeper (envOfC qual scope s.heap.objs.size f cd)) (leaving (envOfC qual scope s.heap.objs.size f cd) e) (λ_ s''=>CX outer H s E e s'') (λe' s''=>CX outer H s E e' s'') s'
theorem AQ {sc:Scope}(h:sc.names.lookup x=some .cell):∃c,(cellsFrom n sc.names []).lookup x=some c:=by
 have q:=PySem.W.cellsFrom_some sc.names n [] (.inl h);exact yn.mp q
theorem Gs {CX:AO}{K:Frag}{f:Addr}{cd:Value}{s1:Shared}{E:XK}
   (S:eg N ps scope) (hd:A.handled=none) (e0:CJ P w K mg base A outer s H) (hl:vs.length=ps.length) (r:Vals vs us)
   (x:InCallC s s.heap.objs.size (bindL (envOfC qual scope s.heap.objs.size f cd).kindOf (ps.zip us) λ_=>none) (cellsFrom (s.heap.objs.size + 1) scope.names []) (bindC (envOfC qual scope s.heap.objs.size f cd).kindOf (ps.zip us) λ_=>none) s1):
   Inv (qj CX P w K mg base N qual scope f cd A outer s H E) [] (start N vs) H s1:=by
 have nu:ps.length<=N.length:=by have:=congrArg List.length S.pre;rw[fb]at this;omega
 obtain⟨h1,tk,rfl,hk⟩:=x.done;have UK:∀b:Addr,b∉(qj CX P w K mg base N qual scope f cd A outer s H E).ex:=λb z=>absurd (show b∈([]:List Addr) from z) RR;refine⟨⟨e0.mod,S.kind,rfl,rfl,ar _,λy z c h1 h2=>?_,λy hy=>?_,λy c _ h=>?_,λ_=>hd,Around.frames_deeper e0.frames,.inr ⟨rfl,rfl⟩,λb z=>absurd z (UK b),e0.bs,e0.Ma,λb _ _=>UK b,λb z=>absurd z (UK b),e0.rJ,e0.OB⟩,
   rfl,e0.bare,Un.kept hk,⟨_,x.toInCall.ns,λi y v h1 h2 h3=>?_⟩,λy c h=>⟨_,x.cell y c h⟩,e0.c7.fresh (ar _),λy c h=>?_,λp hp=>absurd (show p∈([]:List (Addr×Obj)) from hp) RR,e0.c7.kept hk,?_⟩
 . exact name_of_addr x.apart (og h1) (og h2)
 . have hy:scope.names.lookup y=some .cell∨scope.names.lookup y=some .free:=hy;rcases hy with hy | hy
   . exact AQ hy
   . exact absurd rfl (S.QE _ (og hy))
 . exact fg (x.above y c (og h))
 . have hi:i < vs.length:=by
     unfold start at h2
     by_cases hi:i < vs.length
     . exact hi
     . rw[kf (by simpa using hi)]at h2;rw[List.getElem?_replicate]at h2;split at h2 <;> cases h2
   have ha:vs[i]?=some v:=by
     unfold start at h2;rw[ky (by simpa using hi),bb]at h2;cases e:vs[i]? with
     | none=>rw[e]at h2;cases h2
     | some a=>rw[e]at h2;cases h2;rfl
   obtain⟨u,hu,rv⟩:=r.get ha;have hp:ps[i]?=some y:=by
     rw[<- S.pre,List.getElem?_take_of_lt QR];exact h1
   have ndP:ps.Nodup:=by rw[<- S.pre];exact S.nd.sublist (tf _ _)
   refine⟨u,rv,?_⟩;rcases S.par y (ba hp)with k | k
   . exact .inl ⟨k,yc ndP hp hu k⟩
   . obtain⟨c,e⟩:=AQ (n:=s.heap.objs.size + 1) k;refine .inr ⟨.inl k,c,e,?_⟩;have q:=x.cell y c e;rw[yd ndP hp hu (by show scope.names.lookup y≠_;rw[k];decide)]at q;exact q
 . exact e0.c7.fresh (fg (x.above y c (og h)))
 . unfold start;show _=N.length;rw[ax,ab,pb];omega
theorem UL {CX:AO}{K:Frag}{k:Nat}{f:Addr}{params:Arguments}{dV kV doc pm eV ct oc:Value}{an od:Option Addr}
   {Gu:Array (Option Value)}{sp:Sp}(lk:K.lookup f=some ⟨oc,od,.func (fnOf name qual params body scope dV kV doc pm an eV ct),Gu⟩) (Cs:codeIn K eV qual=true) (S:eg N ps scope)
   (len:∀vs H Q E,sp vs H Q E->vs.length=ps.length)
   (iP:∀(A:Around) (outer:List Env) (s:Shared) (H:Hp) (vs:List V) (Q:VK) (E:XK),dB k (A.deeper (envOfC qual scope s.heap.objs.size f eV))->sp vs H Q E->
     ∃t,Ce (qj CX P w K mg base N qual scope f eV A outer s H E) body t/\t { nx:=λ_ H'=>Q .bO H',rt:=Q } (start N vs) H):
   dH P w K mg base CX (k + 1) f (fnOf name qual params body scope dV kV doc pm an eV ct) ps sp:=by
 refine⟨len,λA outer s H args us vs Q E hr e0 hb r OF=>?_⟩;have hl:=len _ _ _ _ OF;have KX:K.In s.heap:=e0.mod.Ms.keeps λb o e=>(e0.bs b o e).1;have lim:s.heap.NoLimit:=e0.mod.nolimit.keeps λb o e=>(e0.bs b o e).1;have UM:∀y∈ps.zip us,scope.names.lookup y.1=some .local∨(scope.names.lookup y.1=some .cell/\((cellsFrom (s.heap.objs.size + 1) scope.names []).lookup y.1).isSome=true):=λ⟨n,v⟩ hy=>by
   rcases S.par n (Bn hy).1 with q | q
   . exact .inl q
   . exact .inr ⟨q,PySem.W.cellsFrom_some _ _ _ (.inl q)⟩
 refine codeAny_call_function hr.depth (KX _ _ lk) rfl S.co S.gen rfl (PySem.W.codeRec_of KX Cs) (hb _ _ _ _ ?_);refine wpAny_newFunctionEnv_cells S.kind UM λenv he s1 x=>?_;subst he;refine⟨lim.keeps x.toInCall.keep,codeAny_func ?_⟩;obtain⟨t,ht,hq⟩:=iP A outer s H vs Q E (hr.deeper _) OF;have I:Inv (qj CX P w K mg base N qual scope f eV A outer s H E) [] (start N vs) H s1:=Gs S hr.hd e0 hl r x;refine Fu (ht [] s1 (start N vs) H _ I hq) (λfl s' hs=>?_) λe s' hs=>hs;have fin:∀{σ':St}{H':Hp}{v:V}{u:Value},Inv (qj CX P w K mg base N qual scope f eV A outer s H E) [] σ' H' s'->RelV v u->Q v H'->CE outer P w H s Q u s':=
   λ{σ' H' v u} J rv q=>⟨v,H',J.os,J.bare,J.base,J.c7,rv,q⟩
 cases fl with
 | ret u=>
   obtain⟨v,σ',H',J,rv,q⟩:=hs;exact fin J rv q
 | next=>
   obtain⟨σ',H',J,q⟩:=hs;exact fin (v:=V.bO) (u:=Value.none) J rfl q
 | brk=>
   obtain⟨_,_,_,q⟩:=hs;exact False.elim q
 | cont=>
   obtain⟨_,_,_,q⟩:=hs;exact False.elim q
section
variable {p:Pos}{t:TA}{id T:String}{r:List V->Hp->VK->Prop}
def QF (r:List V->Hp->VK->Prop)(t:TA):TE:=λσ H Q=>t σ H λvs H1=>r vs H1 Q
theorem Jf (hc:ef X (.builtin id) r)(hg:Gl X x)(hm:X.mg x=none)(hv:bootBuiltins x=some (.builtin id))(ha:PA X (e::es) t)(hn:x≠"__name__":=by decide)(wR:(x==("__debug__":Str))=false:=by decide)
   (he:starEach (e::es) X.env=(false,eval e X.env)::starEach es X.env:=by rfl) (nu:(backTo pos (starEach es X.env)).any (·.1)=false:=by rfl):PE X (.Call (.Name x p) (e::es) [] pos) (QF r t):=by
 intro pins s σ H Q I h;refine FV (fV I hg hm hv ?_ hn wR);exact vb (bI (ha pos pins s σ H _ I h) λus s1 ⟨vs,H1,I1,r1,q1⟩=>hc pins s1 σ H1 vs us Q I1 r1 q1) he nu
theorem Gv (hc:ef X (.type T) r)(hg:Gl X x)(hm:X.mg x=none)(hv:bootBuiltins x=some (.type T))(ha:PA X (e::es) t)(hn:x≠"__name__":=by decide)(wR:(x==("__debug__":Str))=false:=by decide)
   (he:starEach (e::es) X.env=(false,eval e X.env)::starEach es X.env:=by rfl) (nu:(backTo pos (starEach es X.env)).any (·.1)=false:=by rfl):PE X (.Call (.Name x p) (e::es) [] pos) (QF r t):=by
 intro pins s σ H Q I h;refine FV (fV I hg hm hv ?_ hn wR);exact dy (bI (ha pos pins s σ H _ I h) λus s1 ⟨vs,H1,I1,r1,q1⟩=>hc pins s1 σ H1 vs us Q I1 r1 q1) he nu
end
end L2
namespace HT
open PySem PyProof.Rows
section
open PySem.SeqAt
open PySem.AutoSeq1 (wpAny_loadPart')
open PySem.MeetsSeq PySem.MeetsSeq2 PySem.MeetsSeq3
end
section
variable {prog:Program}{w:World}{A:Around}{E:Value->Shared->Prop}{s:Shared}
def AR (n d:Nat):Option Int->Nat
 | none=>d
 | some v=>if v < 0 then (v + (n:Int)).toNat else min v.toNat n
theorem Jg (n d:Nat):AR n d none=d:=rfl
theorem MQ (n d k:Nat):AR n d (some (k:Int))=min k n:=by
 show(if (k:Int) < 0 then ((k:Int) + (n:Int)).toNat else min (k:Int).toNat n)=min k n;rw[Ee QR,hV]
end
end HT
namespace L2
open PySem PySem.Spec PyProof.Rows
variable{b p:Addr}{A:Around}{X:Cx}{e:Expr}{h':Heap}{H H':Hp}{i:Int}{pins:List (Addr×Obj)}{xs:List (List Key×Addr×Value)}{aA:List (List Key×V)}{bu:List Value}{j n t':Nat}{o:Option V}{pos:Pos}{P prog:Program}{s:Shared}{σ:St}{T:String}{α:Type}{y:V}{u:Value}{E Q:Value->Shared->Prop}{w:World}
abbrev TO:=St->Hp->(Option Int->Hp->Prop)->Prop
def PO (X:Cx)(e:Option Expr)(t:TO):Prop:=
 ∀(pins:List (Addr×Obj)) (s:Shared) (σ:St) (H:Hp) (Q:Option Int->Hp->Prop),Inv X pins σ H s->t σ H Q->
   wpAny (model X.prog X.w) X.A (evalPart e X.env) (λu s'=>∃o H',Inv X pins σ H' s'/\IsPart u o/\Q o H') X.xe s
def zj:TO:=λ_ H Q=>Q none H
def Jh (t:TE):TO:=λσ H Q=>t σ H λx H1=>∃i,x=.int i/\Q (some i) H1
section
variable {te:TE}{lo hi:Option Expr}{tl th:TO}{p2:Pos}
theorem MR:PO X none zj:=by
 intro pins s σ H Q I h;rw[PQ];exact B2 ⟨none,H,I,.none,h⟩
theorem MS (h:PE X e te):PO X (some e) (Jh te):=by
 intro pins s σ H Q I hw;rw[evalPart_some];refine bI (h pins s σ H _ I hw) λu s1 ⟨x,H1,I1,r1,q1⟩=>?_;obtain⟨i,rfl,q⟩:=q1;obtain⟨t,rfl⟩:=r1;exact⟨some i,H1,I1,.int i t,q⟩
def W8 (X:Cx)(r:V->Option Int->Option Int->Hp->VK->Prop):Prop:=
 ∀(pins:List (Addr×Obj)) (s:Shared) (σ:St) (H:Hp) (x:V) (v vl vu:Value) (lo hi:Option Int) (sl:Addr) (Q:VK),Inv X pins σ H s->RelV x v->s.heap.IsSliceOf sl vl vu .none->IsPart vl lo->IsPart vu hi->r x lo hi H Q->
   ∃T id,typeLookup (.type T) "__getitem__"=pure (some (.builtin id))/\s.TypeIs v T/\wpAny (model X.prog X.w) X.A (getItem v (.ref sl)) (EP X pins σ Q) X.xe s
def Yu (r:V->Option Int->Option Int->Hp->VK->Prop)(te:TE)(tl th:TO):TE:=λσ H Q=>te σ H λx H1=>tl σ H1 λl H2=>th σ H2 λu H3=>r x l u H3 Q
theorem Ji {r:V->Option Int->Option Int->Hp->VK->Prop}(hr:W8 X r)(he:PE X e te)(hl:PO X lo tl)(hu:PO X hi th):PE X (.Subscript e (.Slice lo hi none p2) pos) (Yu r te tl th):=by
 intro pins s σ H Q I h;refine Subscript_ (bI (he pins s σ H _ I h) λv s1 ⟨x,H1,I1,r1,q1⟩=>?_);refine wpAny_Slice (bI (hl pins s1 σ H1 _ I1 q1) λvl s2 ⟨l,H2,I2,pl,q2⟩=>bI (hu pins s2 σ H2 _ I2 q2) λvu s3 ⟨u,H3,I3,pu,q3⟩=>?_);rw[PQ];refine B2 ?_;have I4:Inv X pins σ H3 { s3 with heap:=s3.heap.push { cls:=.type "slice",data:=.fields #[vl,vu,.none] } }:=I3.kept (t':=s3.toks) λb ob q=>ae _ q;obtain⟨T,id,hT,ht,hg⟩:=hr pins { s3 with heap:=s3.heap.push { cls:=.type "slice",data:=.fields #[vl,vu,.none] } } σ H3 x v vl vu l u s3.heap.objs.size Q I4 r1 (wx ..) pl pu q3;show wpAny (model X.prog X.w) X.A (subscriptTail e (.Slice lo hi none p2) v (.ref s3.heap.objs.size)) (EP X pins σ Q) X.xe { s3 with heap:=s3.heap.push { cls:=.type "slice",data:=.fields #[vl,vu,.none] } };exact tail_any (ops:=[.ref s3.heap.objs.size,v]) ht hT hg SF
def rN (xs:List V)(lo hi:Option Int):List V:=(xs.drop (HT.AR xs.length 0 lo)).take (HT.AR xs.length xs.length hi - HT.AR xs.length 0 lo)
theorem sU (xs:List V)(lo hi:Option Int):(rN xs lo hi).length<=xs.length:=by
 unfold rN;rw[fb,i5];omega
end
def CM (n:Nat)(i:Int):Option Nat:=if 0<=i then (if i < n then some i.toNat else none) else if -(n:Int)<=i then some (i + n).toNat else none
def kZ (xs:List α)(i:Int):Option α:=(CM xs.length i).bind λj=>xs[j]?
theorem Er (h:CM n i=some j):seqIndex? i n=some j/\j < n/\-(n:Int)<=i/\i < n:=by
 unfold CM at h
 by_cases h0:0<=i
 . rw[Fh h0]at h
   by_cases h1:i < n
   . rw[Fh h1]at h;have e:i.toNat=j:=Option.some.inj h;exact⟨by rw[seqIndex_of h0 h1,e],by omega,by omega,h1⟩
   . rw[Ee h1]at h;cases h
 . rw[Ee h0]at h
   by_cases h1:-(n:Int)<=i
   . rw[Fh h1]at h;have e:(i + n).toNat=j:=Option.some.inj h;exact⟨by rw[seqIndex_neg QR h1,e],by omega,h1,by omega⟩
   . rw[Ee h1]at h;cases h
theorem Et {xs:List α}{v:α}(h:kZ xs i=some v):∃j,seqIndex? i xs.length=some j/\xs[j]?=some v/\j < xs.length/\-(xs.length:Int)<=i/\i < xs.length:=by
 unfold kZ at h;cases e:CM xs.length i with
 | none=>rw[e]at h;cases h
 | some j=>
   rw[e]at h;obtain⟨h1,h2,h3,h4⟩:=Er e;exact⟨j,h1,h,h2,h3,h4⟩
theorem eB {xs:List α}{v:α}(h:xs[j]?=some v):kZ xs (j:Int)=some v:=by
 have hj:j < xs.length:=(bc.mp h).1;have e:CM xs.length (j:Int)=some j:=by
   unfold CM;rw[Fh QR,Fh QR];simp
 unfold kZ;rw[e];exact h
def Eu (b:Expr):Prop:=∀o i,subscripted b false o i=operate [o,i] (getItem o i)
def OG (X:Cx)(r:R2):Prop:=
 ∀(value slice:Expr) (pins:List (Addr×Obj)) (s:Shared) (σ:St) (H:Hp) (x y:V) (v u:Value) (Q:VK),Inv X pins σ H s->RelV x v->RelV y u->r x y H Q->
   subscripted slice false v u=operate [v,u] (getItem v u)->wpAny (model X.prog X.w) X.A (subscriptTail value slice v u) (EP X pins σ Q) X.xe s
def W9 (X:Cx)(id:String)(r:V->List V->Hp->VK->Prop):Prop:=
 ∀(pins:List (Addr×Obj)) (s:Shared) (σ:St) (H:Hp) (x:V) (xs:List V) (v:Value) (us:List Value) (Q:VK),Inv X pins σ H s->RelV x v->Vals xs us->r x xs H Q->
   wpAny (model X.prog X.w) X.A (call (.builtin id) (v::us)) (EP X pins σ Q) X.xe s
section
variable {a b:Expr}{ta tb:TE}
theorem UN {r:R2}(hr:OG X r)(ha:PE X a ta)(hb:PE X b tb)(hs:Eu b):PE X (.Subscript a b pos) (Gn r ta tb):=by
 intro pins s σ H Q I h;exact Subscript_ (Qu ha hb I h λv u s2 x y H2 I2 rx ry q=>hr a b pins s2 σ H2 x y v u Q I2 rx ry q (hs _ _))
def UO (K:Frag):R2:=λx y H Q=>∃p xs i v,x=.ref p/\y=.int i/\aR K H p xs/\kZ xs i=some v/\Q v H
def Yv (K:Frag):R2:=λx y H Q=>∃p xs i v,x=.ref p/\y=.int i/\wK K H p xs/\kZ xs i=some v/\Q v H
def Yw:R2:=λx y H Q=>∃z i c,x=.str z/\y=.int i/\z.length<=sizeLine/\kZ z.cps.toList i=some c/\Q (.str ⟨#[c]⟩) H
theorem Ew:OG X (UO X.K):=by
 intro value slice pins s σ H x y v u Q I rx ry h hs;obtain⟨p,xs,i,z,rfl,rfl,hq,he,q⟩:=h;cases rx;obtain⟨t,rfl⟩:=ry;obtain⟨bu,r,pl,hz⟩:=I.list hq;obtain⟨j,h1,h2,h3,h4,h5⟩:=Et he;obtain⟨w,ew,rw'⟩:=r.get h2;have hl:=r.length;have hn:=uL;have fin:EP X pins σ Q w s:=⟨z,H,I,rw',q⟩
 by_cases h0:0<=i
 . have hj:i.toNat=j:=by
     rw[seqIndex_of h0 h5]at h1;exact Option.some.inj h1
   exact item_listR pl.isList h0 QR (by rw[hj];simpa using ew) fin hs
 . have hj:(i + (bu.toArray.size:Int)).toNat=j:=by
     rw[seqIndex_neg QR h4]at h1;rw[cp,<- hl];exact Option.some.inj h1
   exact subscriptTail_builtinR (x:=w) pl.isList.typeIs slot_list_getitem.lookup
     (wpAny_getItem_list_neg (Q:=λr s'=>r=w/\EP X pins σ Q r s') pl.isList QR (by rw[cp] <;> omega) QR (by rw[hj];simpa using ew) ⟨rfl,fin⟩) hs
theorem QG:OG X (Yv X.K):=by
 intro value slice pins s σ H x y v u Q I rx ry h hs;obtain⟨p,xs,i,z,rfl,rfl,hq,he,q⟩:=h;cases rx;obtain⟨t,rfl⟩:=ry;obtain⟨bu,r,pl,hz⟩:=I.tuple hq;obtain⟨j,h1,h2,h3,h4,h5⟩:=Et he;obtain⟨w,ew,rw'⟩:=r.get h2;have hl:=r.length;have hn:=uL;have fin:EP X pins σ Q w s:=⟨z,H,I,rw',q⟩
 exact subscriptTail_builtinR (x:=w) pl.typeIs slot_tuple_getitem.lookup
   (getItem_tuple (j:=j) (Q:=λr s'=>r=w/\EP X pins σ Q r s') pl QR QR (by rw[cp,<- hl];exact h1) (by simpa using ew) ⟨rfl,fin⟩) hs
theorem CN (bu:List Value)(n j:Nat)(u:Value):Obj.mapSeq (·.setIfInBounds j u) { cls:=.type "list",data:=.seq bu.toArray n }={ cls:=.type "list",data:=.seq (bu.set j u).toArray n }:=by
 simp[Obj.mapSeq]
theorem Inv.lst {xs:List V}(I:Inv X pins σ H s)(h:H p=some (.lst xs)):
   ∃(bu:List Value) (n:Nat),Vals xs bu/\s.heap.get? p=some { cls:=.type "list",data:=.seq bu.toArray n }/\xs.length<=sizeLine:=by
 obtain⟨z,bu,n,r,e⟩:=I.c7 p _ h;exact⟨bu,n,r,e,z⟩
theorem Inv.QH {xs ys:List V}{its':List Value}{n':Nat}{f:Obj->Obj}(I:Inv X pins σ H s)(h:H p=some (.lst xs))
   (ho:s.heap.get? p=some { cls:=.type "list",data:=.seq bu.toArray n }) (hf:f { cls:=.type "list",data:=.seq bu.toArray n }={ cls:=.type "list",data:=.seq its'.toArray n' }) (r:Vals ys its') (hz:ys.length<=sizeLine) (t:Nat):
   Inv X pins σ (upd H p (.lst ys)) { s with heap:=s.heap.update p f,toks:=t }:=by
 have e:(s.heap.update p f).get? p=some { cls:=.type "list",data:=.seq its'.toArray n' }:=by
   rw[gN f ho (by rw[hf] <;> rfl),hf]
 refine I.write (x:=p) (e:=p) (by rw[h];trivial) (.inl rfl) (λb u hb q=>(js _ _ (Ne.symm hb)).trans q) ⟨_,e⟩ ?_;exact⟨hz,its',n',r,e⟩
def OH:V->V->V->Hp->(Hp->Prop)->Prop:=λo i v H Q=>∃p xs k j,o=.ref p/\i=.int k/\H p=some (.lst xs)/\CM xs.length k=some j/\Q (upd H p (.lst (xs.set j v)))
theorem set_list:Qj X OH:=by
 intro pins s σ H o i v ov iv u Q I ro ri rv h;obtain⟨p,xs,k,j,rfl,rfl,hp,hj,q⟩:=h;cases ro;obtain⟨t,rfl⟩:=ri;obtain⟨bu,n,r,ho,hz⟩:=I.lst hp;obtain⟨h1,h2,h3,h4⟩:=Er hj;have hl:=r.length;have hn:=uL;have I':Inv X pins σ (upd H p (.lst (xs.set j v))) { s with heap:=s.heap.update p (Obj.mapSeq (·.setIfInBounds j u)) }:=
   I.QH hp ho (CN bu n j u) (r.set rv j) (by rw[List.length_set];exact hz) s.toks
 by_cases h0:0<=k
 . have hk:k.toNat=j:=by
     rw[seqIndex_of h0 h4]at h1;exact Option.some.inj h1
   exact PySem.W.ki_setAt ho h0 QR (by rw[cp,<- hl];exact h4) (by rw[hk];exact⟨_,I',q⟩)
 . have hk:(k + (bu.toArray.size:Int)).toNat=j:=by
     rw[seqIndex_neg QR h3]at h1;rw[cp,<- hl];exact Option.some.inj h1
   exact PySem.W.ki_setBack ho QR (by rw[cp,<- hl];exact h3) QR (by rw[hk];exact⟨_,I',q⟩)
theorem zk (lo hi:Option Int)(n:Nat):(sliceBounds lo hi none n).1=((HT.AR n 0 lo:Nat):Int)/\(sliceBounds lo hi none n).2.1=((HT.AR n n hi:Nat):Int)/\(sliceBounds lo hi none n).2.2=1:=by
 refine⟨?_,?_,rfl⟩
 . cases lo with
   | none=>simp[sliceBounds,HT.AR]
   | some i=>
     simp only[sliceBounds,HT.AR,y0,show(1:Int) > 0 by decide,Md]
     by_cases h:i < 0
     . simp only[h,Md] <;> omega
     . simp only[h,FR] <;> omega
 . cases hi with
   | none=>simp[sliceBounds,HT.AR]
   | some i=>
     simp only[sliceBounds,HT.AR,y0,show(1:Int) > 0 by decide,Md]
     by_cases h:i < 0
     . simp only[h,Md] <;> omega
     . simp only[h,FR] <;> omega
theorem wU (bu:List Value)(lo hi:Option Int):slicePick bu.toArray lo hi none=((bu.drop (HT.AR bu.length 0 lo)).take (HT.AR bu.length bu.length hi - HT.AR bu.length 0 lo)).toArray:=by
 obtain⟨h1,h2,h3⟩:=zk lo hi bu.toArray.size;unfold slicePick;rw[h1,h2,h3];simp only[sliceRange_one,pick_run,cp] <;> rfl
def kU:V->Bool
 | .bO=>true
 | .bl _=>true
 | .int _=>true
 | .str _=>true
 | _=>false
def Gw:V->V->Bool
 | .bO,.bO=>true
 | .bl a,.bl b=>a==b
 | .bl a,.int b=>(if a then 1 else 0)==b
 | .int a,.bl b=>a==(if b then 1 else 0)
 | .int a,.int b=>a==b
 | .str a,.str b=>a==b
 | _,_=>false
theorem QI {x:V}{v:Value}(ry:RelV y u)(rx:RelV x v)(fy:kU y=true)(fx:kU x=true):SeqAt.EqAt A s u v (Gw y x):=by
 cases y with
 | bO=>
   cases ry;cases x with
   | bO=>cases rx;exact SeqAt.EqAt.same _
   | bl b=>cases rx;exact SeqAt.EqAt.none_bool b
   | int b=>obtain⟨t,rfl⟩:=rx;exact SeqAt.EqAt.none_int b t
   | str b=>obtain⟨t,rfl⟩:=rx;exact SeqAt.EqAt.none_str b t
   | _=>exact absurd (show false=true from fx) dr
 | bl a=>
   cases ry;cases x with
   | bO=>cases rx;exact SeqAt.EqAt.bool_none a
   | bl b=>cases rx;exact SeqAt.EqAt.bool_bool a b
   | int b=>obtain⟨t,rfl⟩:=rx;exact SeqAt.EqAt.bool_int a b t
   | str b=>obtain⟨t,rfl⟩:=rx;exact SeqAt.EqAt.bool_str a b t
   | _=>exact absurd (show false=true from fx) dr
 | int a=>
   obtain⟨t',rfl⟩:=ry;cases x with
   | bO=>cases rx;exact SeqAt.EqAt.int_none a t'
   | bl b=>cases rx;exact SeqAt.EqAt.int_bool a t' b
   | int b=>obtain⟨t,rfl⟩:=rx;exact SeqAt.EqAt.int_int a t' b t
   | str b=>obtain⟨t,rfl⟩:=rx;exact SeqAt.EqAt.int_str a t' b t
   | _=>exact absurd (show false=true from fx) dr
 | str a=>
   obtain⟨t',rfl⟩:=ry;cases x with
   | bO=>cases rx;exact SeqAt.EqAt.str_none a t'
   | bl b=>cases rx;exact SeqAt.EqAt.str_bool a t' b
   | int b=>obtain⟨t,rfl⟩:=rx;exact SeqAt.EqAt.str_int a t' b t
   | str b=>obtain⟨t,rfl⟩:=rx;exact SeqAt.EqAt.str_str a t' b t
   | _=>exact absurd (show false=true from fx) dr
 | _=>exact absurd (show false=true from fy) dr
def CO (x:V)(u:Value):Bool:=match u with
 | .none=>Gw .bO x
 | .bool b=>Gw (.bl b) x
 | .int i _=>Gw (.int i) x
 | .str z _=>Gw (.str z) x
 | _=>false
theorem Gwi (a b:Int):Gw (.int a) (.int b)=(a==b):=rfl
theorem Gws (a b:Str):Gw (.str a) (.str b)=(a==b):=rfl
theorem Jj {x:V}(r:RelV y u)(f:kU y=true):CO x u=Gw y x:=by
 cases y with
 | bO=>cases r;rfl
 | bl b=>cases r;rfl
 | int i=>obtain⟨t,rfl⟩:=r;rfl
 | str z=>obtain⟨t,rfl⟩:=r;rfl
 | _=>exact absurd (show false=true from f) dr
theorem qk {x:V}:∀{xs:List V}{us:List Value},Vals xs us->xs.all kU=true->us.any (CO x)=xs.any λy=>Gw y x:=by
 intro xs us t;induction t with
 | nil=>exact λ_=>rfl
 | cons r t ih=>intro f;rw[List.all_cons,cm]at f;rw[List.any_cons,List.any_cons,Jj r f.1,ih f.2]
theorem lQ {A:Around}{s:Shared}{x:V}{v:Value}(rx:RelV x v)(fx:kU x=true):∀{xs:List V}{us:List Value},Vals xs us->xs.all kU=true->∀u∈us,SeqAt.EqAt A s u v (CO x u):=by
 intro xs us t;induction t with
 | nil=>exact λ_ _ hu=>by cases hu
 | cons r t ih=>
   intro f u' hu;rw[List.all_cons,cm]at f;rcases List.mem_cons.mp hu with rfl | hu
   . rw[Jj r f.1];exact QI r rx f.1 fx
   . exact ih f.2 u' hu
def Cf (x:V)(xs:List V):Bool:=xs.any λy=>Gw y x
def rIn (K:Frag)(neg:Bool):R2:=λx y H Q=>∃p xs,y=.ref p/\(aR K H p xs∨wK K H p xs)/\kU x=true/\xs.all kU=true/\Q (.bl (if neg then !Cf x xs else Cf x xs)) H
theorem Gx:iM X (compareOp .In) (rIn X.K false):=by
 intro pins s σ H x y v u Q I rx ry h;obtain⟨p,xs,rfl,hq,fx,fs,q⟩:=h;cases ry;rcases hq with hq | hq
 . obtain⟨bu,r,pl,hz⟩:=I.list hq;refine SeqAt.in_listAt (CO x) pl.isList (λw hw=>lQ rx fx r fs w (by simpa using hw)) ⟨.bl _,H,I,rfl,?_⟩;rw[show bu.toArray.any (CO x)=bu.any (CO x) by simp,qk r fs];exact q
 . obtain⟨bu,r,pl,hz⟩:=I.tuple hq;refine SeqAt.in_tupleAt (CO x) pl (λw hw=>lQ rx fx r fs w (by simpa using hw)) ⟨.bl _,H,I,rfl,?_⟩;rw[show bu.toArray.any (CO x)=bu.any (CO x) by simp,qk r fs];exact q
theorem zl:iM X (compareOp .NotIn) (rIn X.K true):=by
 intro pins s σ H x y v u Q I rx ry h;obtain⟨p,xs,rfl,hq,fx,fs,q⟩:=h;cases ry;rcases hq with hq | hq
 . obtain⟨bu,r,pl,hz⟩:=I.list hq;refine SeqAt.notIn_listAt (CO x) pl.isList (λw hw=>lQ rx fx r fs w (by simpa using hw)) ⟨.bl _,H,I,rfl,?_⟩;rw[show bu.toArray.any (CO x)=bu.any (CO x) by simp,qk r fs];exact q
 . obtain⟨bu,r,pl,hz⟩:=I.tuple hq;refine SeqAt.notIn_tupleAt (CO x) pl (λw hw=>lQ rx fx r fs w (by simpa using hw)) ⟨.bl _,H,I,rfl,?_⟩;rw[show bu.toArray.any (CO x)=bu.any (CO x) by simp,qk r fs];exact q
theorem ql:ef X (.builtin "len") (λxs H Q=>∃p ys,xs=[.ref p]/\(aR X.K H p ys∨wK X.K H p ys)/\Q (.int ys.length) H):=by
 intro pins s σ H xs us Q I r h;obtain⟨p,ys,rfl,hq,q⟩:=h;obtain⟨u,rfl,rx⟩:=vals1 r;cases rx;have hn:=uL;rcases hq with hq | hq
 . obtain⟨bu,r',pl,hz⟩:=I.list hq;have hlen:=r'.length;exact Calls.call_len_list pl.isList (by simp only[cp] <;> omega) ⟨.int ys.length,H,I.tok _,⟨s.toks + 1,by rw[cp,hlen]⟩,q⟩
 . obtain⟨bu,r',pl,hz⟩:=I.tuple hq;have hlen:=r'.length;exact len_tuple pl (by simp only[cp] <;> omega) ⟨.int ys.length,H,I.tok _,⟨s.toks + 1,by rw[cp,hlen]⟩,q⟩
theorem zm:ef X (.type "list") (λxs H Q=>∃p ys,xs=[.ref p]/\(aR X.K H p ys∨wK X.K H p ys)/\∀l,H l=none->Q (.ref l) (upd H l (.lst ys))):=by
 intro pins s σ H xs us Q I r h;obtain⟨p,ys,rfl,hq,q⟩:=h;obtain⟨u,rfl,rx⟩:=vals1 r;cases rx;have fin:∀(bu:List Value),Vals ys bu->ys.length<=sizeLine->∀(h':Heap) (c':Nat),(∀b o',s.heap.get? b=some o'->h'.get? b=some o')->
     h'.get? s.heap.objs.size=some { cls:=.type "list",dict:=none,data:=.seq bu.toArray c',slots:=#[] }->EP X pins σ Q (.ref s.heap.objs.size) { s with heap:=h' }:=λbu r' hz h' c' kp e=>
   ⟨.ref s.heap.objs.size,_,I.laid (t':=s.toks) kp (ar _) (show cO X.prog X.w _ h' _ (.lst ys) from⟨hz,bu,c',r',e⟩),rfl,q _ (I.c7.fresh (ar _))⟩
 rcases hq with hq | hq
 . obtain⟨bu,r',pl,hz⟩:=I.list hq;have hlen:=r'.length;obtain⟨o,ho,hc,n,hd⟩:=pl.isList;exact call_list_seq p (.inl rfl) ho hc hd (λh' c' kp e=>fin bu r' hz h' c' kp e) (by simp only[cp] <;> omega)
 . obtain⟨bu,r',pl,hz⟩:=I.tuple hq;have hlen:=r'.length;obtain⟨o,ho,hc,n,hd⟩:=pl;exact call_list_seq p (.inr rfl) ho hc hd (λh' c' kp e=>fin bu r' hz h' c' kp e) (by simp only[cp] <;> omega)
def Xa (K:Frag)(T:String)(x:V)(H:Hp):Prop:=match x with
 | .str _=>T="str"
 | .int _=>T="int"
 | .ref p=>(T="list"/\∃xs,aR K H p xs)∨(T="tuple"/\∃o,K.lookup p=some o/\o.cls=.type "tuple"/\o.dict=none)∨
     (T="dict"/\((∃aA,H p=some (.dK aA))∨∃aA,H p=some (.dT aA)))∨(T="set"/\∃S n,H p=some (.set S n))
 | _=>False
theorem Jk {x:V}{v:Value}(I:Inv X pins σ H s)(r:RelV x v)(ty:Xa X.K T x H):
   s.TypeIs v T/\∀a,v=.ref a->∃ob,s.heap.get? a=some ob/\ob.dict=none:=by
 cases x with
 | str z=>
   obtain⟨t,rfl⟩:=r;cases(show T="str" from ty);exact⟨typeIs_str s z t,λ_ e=>nomatch e⟩
 | int i=>
   obtain⟨t,rfl⟩:=r;cases(show T="int" from ty);exact⟨typeIs_int s i t,λ_ e=>nomatch e⟩
 | ref p=>
   cases r;rcases ty with ⟨rfl,xs,hq⟩ | ⟨rfl,o,hk,hc,hd⟩ | ⟨rfl,hk⟩ | ⟨rfl,S,n,hk⟩
   . obtain⟨bu,_,pl,_⟩:=I.list hq;refine⟨pl.isList.typeIs,λa e=>?_⟩;cases e;obtain⟨o,n,e,c,hd,_⟩:=pl;exact⟨o,e,hd⟩
   . refine⟨⟨o,I.qd p o hk,hc⟩,λa e=>?_⟩;cases e;exact⟨o,I.qd _ o hk,hd⟩
   . have z:∃o,s.heap.get? p=some o/\o.ExactDict:=by
       rcases hk with ⟨aA,hk⟩ | ⟨aA,hk⟩
       . obtain⟨_,_,_,_,o,_,_,e,ex,_⟩:=I.c7 p _ hk;exact⟨o,e,ex⟩
       . obtain⟨_,_,_,_,o,_,_,e,ex,_⟩:=I.c7 p _ hk;exact⟨o,e,ex⟩
     obtain⟨o,e,ex⟩:=z;refine⟨⟨o,e,ex.1⟩,λa e2=>?_⟩;cases e2;exact⟨o,e,ex.2.1⟩
   . obtain⟨o,_,_,_,e,ex,_⟩:=I.c7 p _ hk;refine⟨⟨o,e,ex.1⟩,λa e2=>?_⟩;cases e2;exact⟨o,e,ex.2.1⟩
 | _=>exact False.elim ty
def QJ (K:Frag)(T:String)(r:V->List V->Hp->VK->Prop)(to:TE):TE:=λσ H Q=>to σ H λx H1=>Xa K T x H1/\r x [] H1 Q
def Yx (K:Frag)(T:String)(r:V->List V->Hp->VK->Prop)(to:TE)(t:TA):TE:=λσ H Q=>to σ H λx H1=>Xa K T x H1/\t σ H1 λxs H2=>r x xs H2 Q
variable {o:Expr}{es:List Expr}{to:TE}{t:TA}{name:Str}{apos jX:Pos}{id:String}{r:V->List V->Hp->VK->Prop}
theorem QK (pa:PlainAttrs T)(slot:Slot T name id)(QL:typeOf (.builtin id)=pure (.type "method_descriptor"))(hm:W9 X id r)(ho:PE X o to)
   (uM:attributeBase o name X.env (eval o X.env)=eval o X.env:=by rfl) (uN:(apos.endLine==jX.line)=true:=by rfl):PE X (.Call (.Attribute o name apos) [] [] jX) (QJ X.K T r to):=by
 intro pins s σ H Q I h;refine wpAny_Call_method0_late uM uN (bI (ho pins s σ H _ I h) λv s1 ⟨x,H1,I1,r1,ty,q1⟩=>?_);obtain⟨h1,h2⟩:=Jk I1 r1 ty;exact⟨T,id,pa,slot,QL,h1,h2,Calls.callWith_builtin rfl (PySem.evalArgs_none (hm pins s1 σ H1 x [] v [] Q I1 r1 .nil q1))⟩
theorem UP (pa:PlainAttrs T)(slot:Slot T name id)(QL:typeOf (.builtin id)=pure (.type "method_descriptor"))(hm:W9 X id r)(ho:PE X o to)(ha:PA X (e::es) t)
   (uM:attributeBase o name X.env (eval o X.env)=eval o X.env:=by rfl)
   (QM:((backTo jX (starEach (e::es) X.env)).all (λx=>!x.1)&&(backToKw jX (keywordEach [] X.env)).all (λx=>x.1.isSome)
     &&decide ((e::es).length + ([]:List Keyword).length + (if ([]:List Keyword).isEmpty then 0 else 1) < 30))=true:=by rfl)
   (uN:(apos.endLine==jX.line)=true:=by rfl) (hs:starEach (e::es) X.env=(false,eval e X.env)::starEach es X.env:=by rfl) (CP:(backTo jX (starEach es X.env)).any (·.1)=false:=by rfl):
   PE X (.Call (.Attribute o name apos) (e::es) [] jX) (Yx X.K T r to t):=by
 intro pins s σ H Q I h;refine wpAny_Call_method_late uM QM uN rfl (bI (ho pins s σ H _ I h) λv s1 ⟨x,H1,I1,r1,ty,q1⟩=>?_);obtain⟨h1,h2⟩:=Jk I1 r1 ty;refine⟨T,id,pa,slot,QL,h1,h2,?_⟩;have hA:=ha jX pins s1 σ H1 _ I1 q1;rw[hs]at hA ⊢;refine Calls.callWith_builtin (by show(false||(backTo jX (starEach es X.env)).any (·.1))=false;rw[CP] <;> rfl) (Calls.evalArgs_plain ?_);exact bI hA λus s2 ⟨vs,H2,I2,r2,q2⟩=>hm pins s2 σ H2 x vs v us Q I2 r1 r2 q2
end
def MtM (X:Cx)(id:String)(r:V->List V->Hp->VK->Prop):Prop:=
 ∀(pins:List (Addr×Obj)) (s:Shared) (σ:St) (H:Hp) (x:V) (xs:List V) (v:Value) (us:List Value) (Q:VK),Inv X pins σ H s->RelV x v->Vals xs us->r x xs H Q->
   wpAny (model X.prog X.w) X.A (call (.builtin id) (v::us)) (EP X pins σ Q) X.xe s
theorem Vals.one:∀{x:V}{us:List Value},Vals [x] us->∃u,us=[u]/\RelV x u:=by
 intro x us h;cases h with
 | cons r t=>cases t;exact⟨_,rfl,r⟩
theorem Vals.zero:∀{us:List Value},Vals [] us->us=[]
 | _,.nil=>rfl
theorem Vals.dropLast {xs:List V}{us:List Value}(h:Vals xs us):Vals xs.dropLast us.dropLast:=by
 induction h with
 | nil=>exact .nil
 | cons r t ih=>
   cases t with
   | nil=>exact .nil
   | cons q t'=>exact .cons r ih
theorem CQ (l:List α):l.eraseIdx (l.length - 1)=l.dropLast:=by
 induction l with
 | nil=>rfl
 | cons a r ih=>
   cases r with
   | nil=>rfl
   | cons b r=>
     have e:(a::b::r).length - 1=((b::r).length - 1) + 1:=by
       have h1:(a::b::r).length=r.length + 2:=rfl;have h2:(b::r).length=r.length + 1:=rfl;omega
     rw[e,List.eraseIdx_cons_succ,ih]
     all_goals rfl
section
variable {l:Addr}{xs ys zs:List V}
theorem Inv.UQ {its':List Value}{f:Array Value->Array Value}(I:Inv X pins σ H s)(hH:H l=some (.lst xs))
   (e:s.heap.get? l=some { cls:=.type "list",data:=.seq bu.toArray n }) (hf:f bu.toArray=its'.toArray) (hv:Vals ys its') (hz:ys.length<=sizeLine):
   Inv X pins σ (upd H l (.lst ys)) { s with heap:=s.heap.update l (Obj.mapSeq f),toks:=t' }:=by
 have q:=PySem.IsL.update e f;rw[hf]at q;refine I.write (x:=l) (e:=l) (by rw[hH];exact trivial) (.inl rfl) (λb' u hb hu=>(js s.heap (Obj.mapSeq f) (Ne.symm hb)).trans hu) ⟨_,q⟩ ?_;exact⟨hz,its',_,hv,q⟩
theorem Inv.QN (I:Inv X pins σ H s)(hv:Vals ys bu)(hz:ys.length<=sizeLine):
   Inv X pins σ (upd H s.heap.objs.size (.lst ys)) { s with heap:=s.heap.push { cls:=.type "list",data:=.seq bu.toArray },toks:=t' }:=
 I.laid (λ_ _ q=>ae _ q) (ar _) ⟨hz,bu,0,hv,cb _ rfl⟩
theorem Inv.fresh (I:Inv X pins σ H s):H s.heap.objs.size=none:=I.c7.fresh (ar _)
theorem Inv.MT (I:Inv X pins σ H s)(hH:H l=some (.lst xs)):xs.length<=sizeLine/\∃(bu:List Value) (n:Nat),Vals xs bu/\xs.length=bu.length/\s.heap.get? l=some { cls:=.type "list",data:=.seq bu.toArray n }:=by
 obtain⟨z,bu,n,r,e⟩:=I.c7 l _ hH;exact⟨z,bu,n,r,r.length,e⟩
end
def Ex:V->List V->Hp->VK->Prop:=λx vs H Q=>∃l xs y,x=.ref l/\vs=[y]/\H l=some (.lst xs)/\xs.length < sizeLine/\Q .bO (upd H l (.lst (xs++[y])))
theorem fM:MtM X "list.append" Ex:=by
 intro pins s σ H x vs v us Q I rx rv h;obtain⟨l,xs,y,rfl,rfl,hH,hz,q⟩:=h;cases rx;obtain⟨u,rfl,ru⟩:=rv.one;obtain⟨z,bu,n,r,hl,e⟩:=I.MT hH;refine call_meets F.slot_list_append ⟨_,e,rfl⟩ F.entry_list_append (F.args_list_append_2 _ _) (PySem.list_append l bu.toArray n u (by rw[cp];omega)) ⟨e,?_⟩;refine⟨.bO,_,I.UQ (its':=bu++[u]) hH e RR (r.append (.cons ru .nil)) ?_,rfl,q⟩;rw[ax,ke];omega
def MU:V->List V->Hp->VK->Prop:=λx vs H Q=>∃l b xs zs,x=.ref l/\vs=[.ref b]/\H l=some (.lst xs)/\H b=some (.lst zs)/\xs.length + zs.length<=sizeLine/\Q .bO (upd H l (.lst (xs++zs)))
def UR:V->List V->Hp->VK->Prop:=λx vs H Q=>∃l xs y,x=.ref l/\vs=[]/\H l=some (.lst xs)/\xs[xs.length - 1]?=some y/\Q y (upd H l (.lst xs.dropLast))
theorem Jl:MtM X "list.pop" UR:=by
 intro pins s σ H x vs v us Q I rx rv h;obtain⟨l,xs,y,rfl,rfl,hH,hy,q⟩:=h;cases rx;have hus:=rv.zero;subst hus;obtain⟨z,bu,n,r,hl,e⟩:=I.MT hH;obtain⟨u,hu,ru⟩:=r.get hy;have Ip:bu.toArray[bu.toArray.size - 1]?=some u:=by
   show bu.toArray[bu.length - 1]?=some u;rw[<- ui,<- hl];exact hu
 refine call_meets F.slot_list_pop ⟨_,e,rfl⟩ F.entry_list_pop (F.args_list_pop_1 _) (MeetsSeq.list_pop_last l bu.toArray n u Ip (by rw[cp];omega)) ⟨e,?_⟩;refine⟨y,_,I.UQ (its':=bu.dropLast) hH e ?_ r.dropLast ?_,ru,q⟩
 . show bu.toArray.eraseIdxIfInBounds (bu.toArray.size - 1)=bu.dropLast.toArray;rw[cp,List.eraseIdxIfInBounds_toArray,CQ]
 . rw[List.length_dropLast];omega
def QO:V->List V->Hp->VK->Prop:=λx vs H Q=>∃l xs,x=.ref l/\vs=[]/\H l=some (.lst xs)/\Q .bO (upd H l (.lst []))
section
variable {κ:Type}[DecidableEq κ]
def dO (aA:List (κ×V))(k:κ):Option V:=(aA.find? λkv=>decide (kv.1=k)).map (·.2)
def putK (aA:List (κ×V))(k:κ)(v:V):List (κ×V):=
 if (aA.any λkv=>decide (kv.1=k))=true then aA.map (λkv=>if kv.1=k then (kv.1,v) else kv) else aA++[(k,v)]
theorem dP {p:κ×V}{r:List (κ×V)}{k:κ}(e:p.1=k):dO (p::r) k=some p.2:=by simp[dO,List.find?_cons,e]
theorem dQ {p:κ×V}{r:List (κ×V)}{k:κ}(e:¬ p.1=k):dO (p::r) k=dO r k:=by simp[dO,List.find?_cons,e]
theorem qm (k:κ):∀aA:List (κ×V),(aA.any λkv=>decide (kv.1=k))=(dO aA k).isSome
 | []=>rfl
 | p::r=>by
   rw[List.any_cons]
   by_cases e:p.1=k
   . simp only[dP e,Dx e,Bool.true_or,Option.isSome_some]
   . rw[dQ e,Ha e,Bool.false_or];exact qm k r
theorem AS (k j:κ)(y:V):∀aA:List (κ×V),dO (aA.map λkv=>if kv.1=k then (kv.1,y) else kv) j=(dO aA j).map λx=>if j=k then y else x
 | []=>rfl
 | p::r=>by
   have ih:=AS k j y r;rw[List.map_cons]
   by_cases h:p.1=k
   . rw[Fh h]
     by_cases e:p.1=j
     . rw[dP (p:=(p.1,y)) e,dP e,Option.map_some,Fh (e.symm.trans h)]
     . rw[dQ (p:=(p.1,y)) e,dQ e,ih]
   . rw[Ee h]
     by_cases e:p.1=j
     . rw[dP (p:=p) e,dP e,Option.map_some,Ee (λz=>h (e.trans z))]
     . rw[dQ (p:=p) e,dQ e,ih]
theorem ye (k j:κ)(y:V):∀aA:List (κ×V),dO aA k=none->dO (aA++[(k,y)]) j=if j=k then some y else dO aA j
 | [],_=>by
   by_cases e:k=j
   . rw[Fh e.symm];exact dP (p:=(k,y)) e
   . rw[Ee (λz=>e z.symm)];exact dQ (p:=(k,y)) e
 | p::r,hn=>by
   rw[List.cons_append];have hk:¬ p.1=k:=λz=>by rw[dP z]at hn;cases hn
   rw[dQ hk]at hn;have ih:=ye k j y r hn
   by_cases e:p.1=j
   . rw[dP e,dP e,Ee (λz=>hk (e.trans z))]
   . rw[dQ e,dQ e,ih]
theorem AU (aA:List (κ×V))(k j:κ)(y:V):dO (putK aA k y) j=if j=k then some y else dO aA j:=by
 unfold putK
 by_cases a:(aA.any λkv=>decide (kv.1=k))=true
 . rw[Fh a,AS];rw[qm]at a
   by_cases e:j=k
   . obtain⟨x,hx⟩:=yn.mp a;rw[Fh e,e,hx,Option.map_some,Fh rfl]
   . rw[Ee e];cases dO aA j with
     | none=>rfl
     | some x=>rw[Option.map_some,Ee e]
 . rw[Ee a];refine ye k j y aA ?_;rw[qm]at a;cases q:dO aA k with
   | none=>rfl
   | some x=>rw[q]at a;exact(a rfl).elim
theorem jh (aA:List (κ×V))(k:κ)(v:V):(putK aA k v).length<=aA.length + 1:=by
 unfold putK;split
 . rw[ab];omega
 . rw[ax,List.length_cons,List.length_nil];omega
theorem oh.yf {u:Option Value}(r:oh o u):o.isSome=u.isSome:=by
 cases o with
 | none=>cases u with
   | none=>rfl
   | some _=>exact(show False from r).elim
 | some _=>cases u with
   | none=>exact(show False from r).elim
   | some _=>rfl
theorem KV.val {aA:List (κ×V)}{vs:List (κ×Value)}(r:KV aA vs)(k:κ):oh (dO aA k) (valueAt vs k):=by
 unfold KV at r;induction r with
 | nil=>exact True.intro
 | @cons p q ps qs h t ih=>
   obtain⟨h1,h2⟩:=h
   by_cases e:p.1=k
   . have e':q.1=k:=h1.symm.trans e;have b:valueAt (q::qs) k=some q.2:=by simp[valueAt,List.find?_cons,e']
     rw[dP e,b];exact h2
   . have e':¬ q.1=k:=λz=>e (h1.trans z);have b:valueAt (q::qs) k=valueAt qs k:=by simp[valueAt,List.find?_cons,e']
     rw[dQ e,b];exact ih
theorem KV.any {aA:List (κ×V)}{vs:List (κ×Value)}(r:KV aA vs)(k:κ):(aA.any λkv=>decide (kv.1=k))=vs.any λkv=>decide (kv.1=k):=by
 unfold KV at r;induction r with
 | nil=>rfl
 | cons h t ih=>rw[List.any_cons,List.any_cons,ih,h.1]
theorem KV.QS {aA:List (κ×V)}{vs:List (κ×Value)}(r:KV aA vs)(k:κ)(ry:RelV y u):
   KV (aA.map λkv=>if kv.1=k then (kv.1,y) else kv) (vs.map λkv=>if kv.1=k then (kv.1,u) else kv):=by
 unfold KV at r ⊢;induction r with
 | nil=>exact .nil
 | @cons p q ps qs h t ih=>
   rw[List.map_cons,List.map_cons];refine .cons ?_ ih;obtain⟨h1,h2⟩:=h
   by_cases e:p.1=k
   . rw[Fh e,Fh (h1.symm.trans e)];exact⟨h1,ry⟩
   . rw[Ee e,Ee (λz=>e (h1.trans z))];exact⟨h1,h2⟩
theorem KV.put {aA:List (κ×V)}{vs:List (κ×Value)}(r:KV aA vs)(k:κ)(ry:RelV y u):KV (putK aA k y) (stored vs k u):=by
 unfold putK stored;rw[r.any k]
 by_cases e:(vs.any λkv=>decide (kv.1=k))=true
 . rw[Fh e,Fh e];exact r.QS k ry
 . rw[Ee e,Ee e];exact Paired.snoc r ⟨rfl,ry⟩
theorem KV.length {aA:List (κ×V)}{vs:List (κ×Value)}(r:KV aA vs):aA.length=vs.length:=xc r
end
theorem AV {k:Key}(r:RelV (kV k) u):(c9 P w).is k u=true:=by
 cases k with
 | inl i=>obtain⟨t,e⟩:=(show ∃t,u=Value.int i t from r);subst e;exact AE P w i t
 | inr x=>obtain⟨t,e⟩:=(show ∃t,u=Value.str x t from r);subst e;exact AF P w x t
theorem yg {P:Program}{w:World}:∀{ks:List Key}{us:List Value},Vals (ks.map kV) us->ItemsAre (c9 P w) ks us
 | [],_,r=>by rw[List.map_nil]at r;cases r;exact .nil
 | k::ks,_,r=>by
   rw[List.map_cons]at r;cases r with
   | cons h t=>exact .cons (AV h) (yg t)
abbrev KT (H:Hp):List (List Key×V)->List (List Key×Addr×Value)->Prop:=Paired λp q=>p.1=q.1/\H q.2.1=some (.tup (p.1.map kV))/\RelV p.2 q.2.2
theorem KT.val (r:KT H aA xs)(k:List Key):oh (dO aA k) ((atKey xs k).map (·.2)):=by
 induction r with
 | nil=>exact True.intro
 | @cons p q ps qs h t ih=>
   obtain⟨h1,_,h2⟩:=h
   by_cases e:p.1=k
   . have e':q.1=k:=h1.symm.trans e;have b:atKey (q::qs) k=some q.2:=by simp[atKey,List.find?_cons,e']
     rw[dP e,b];exact h2
   . have e':¬ q.1=k:=λz=>e (h1.trans z);have b:atKey (q::qs) k=atKey qs k:=by simp[atKey,List.find?_cons,e']
     rw[dQ e,b];exact ih
theorem KT.QS (r:KT H aA xs)(k:List Key)(ry:RelV y u):
   KT H (aA.map λkv=>if kv.1=k then (kv.1,y) else kv) (xs.map (putAt k u)):=by
 induction r with
 | nil=>exact .nil
 | @cons p q ps qs h t ih=>
   rw[List.map_cons,List.map_cons];refine .cons ?_ ih;obtain⟨h1,h2,h3⟩:=h;unfold putAt
   by_cases e:p.1=k
   . rw[Fh e,Fh (h1.symm.trans e)];exact⟨h1,h2,ry⟩
   . rw[Ee e,Ee (λz=>e (h1.trans z))];exact⟨h1,h2,h3⟩
theorem KT.put (r:KT H aA xs)(k:List Key)(hb:H b=some (.tup (k.map kV)))(ry:RelV y u):
   KT H (putK aA k y) (storedH xs k b u):=by
 have e:(aA.any λkv=>decide (kv.1=k))=(atKey xs k).isSome:=by
   rw[qm,(r.val k).yf,Option.isSome_map]
 unfold putK storedH;rw[e]
 by_cases q:(atKey xs k).isSome=true
 . rw[Fh q,Fh q];exact r.QS k ry
 . rw[Ee q,Ee q];exact Paired.snoc r ⟨rfl,hb,ry⟩
theorem KT.keeps (r:KT H aA xs)(ht:∀b ys,H b=some (.tup ys)->H' b=some (.tup ys)):KT H' aA xs:=
 Paired.PZ r λ_ _ z=>⟨z.1,ht _ _ z.2.1,z.2.2⟩
section
variable {h:Heap}{a:Addr}
theorem OI {u:HO}(ok:pB P w H h)(e:Rd H a u):cO P w H h a u:=e.ok ok
theorem Ey {aA:List (Key×V)}(ok:pB P w H h)(e:Rd H a (.dK aA)):aA.length<=sizeLine/\(a==sysModules)=false/\∃vs,KV aA vs/\h.DictOf (c9 P w) a vs:=
 show cO P w H h a (.dK aA) from OI ok e
theorem OJ {aA:List (Key×V)}(ok:pB P w H h)(e:H a=some (.dK aA)):aA.length<=sizeLine/\(a==sysModules)=false/\∃vs,KV aA vs/\h.DictOf (c9 P w) a vs:=Ey ok (.inl e)
theorem CS {ks:List Key}(ok:pB P w H h)(e:H a=some (.tup (ks.map kV))):(tupleKind (c9 P w)).is h ks a:=by
 obtain⟨_,bu,r,o,h1,h2,n,h3⟩:=(show cO P w H h a (.tup (ks.map kV)) from ok a _ e)
 exact⟨o,bu.toArray,n,h1,h2,h3,by simpa using yg r⟩
theorem Jm (ok:pB P w H h)(e:Rd H a (.dT aA)):aA.length<=sizeLine/\(a==sysModules)=false/\
   ∃xs,KT H aA xs/\h.DictOfH (tupleKind (c9 P w)) a xs:=by
 obtain⟨z,y,xs,r,o,es,ep,h1,h2,h3,h4,h5⟩:=(show cO P w H h a (.dT aA) from OI ok e)
 refine⟨z,y,xs,r,o,es,ep,h1,h2,h3,h4,λx hx=>?_,h5⟩;have all:∀{l:List (List Key×V)}{m:List (List Key×Addr×Value)},KT H l m->∀x∈m,(tupleKind (c9 P w)).is h x.1 x.2.1:=by
   intro l m q;induction q with
   | nil=>intro x hx;exact nomatch hx
   | @cons p q ps qs hq t ih=>
     intro x hx;rcases List.mem_cons.mp hx with e | hx
     . subst e;exact CS ok (by rw[<- hq.1];exact hq.2.1)
     . exact ih x hx
 exact all r x hx
theorem US (ok:pB P w H h)(e:H a=some (.dT aA)):aA.length<=sizeLine/\(a==sysModules)=false/\
   ∃xs,KT H aA xs/\h.DictOfH (tupleKind (c9 P w)) a xs:=Jm ok (.inl e)
end
def tT (H:Hp)(a:Addr)(y:V)(r:Option V):Prop:=
 (∃aA k,Rd H a (.dK aA)/\y=kV k/\r=dO aA k)∨∃aA k b,Rd H a (.dT aA)/\y=.ref b/\H b=some (.tup (k.map kV))/\r=dO aA k
def AW (H:Hp)(a:Addr)(y v:V)(H':Hp):Prop:=
 (∃aA k,H a=some (.dK aA)/\y=kV k/\aA.length < sizeLine/\H'=upd H a (.dK (putK aA k v)))∨
 ∃aA k b,H a=some (.dT aA)/\y=.ref b/\H b=some (.tup (k.map kV))/\aA.length < sizeLine/\H'=upd H a (.dT (putK aA k v))
theorem tT.k {a:Addr}{aA:List (Key×V)}{k:Key}(e:H a=some (.dK aA)):tT H a (kV k) (dO aA k):=.inl ⟨aA,k,.inl e,rfl,rfl⟩
theorem tT.t {a:Addr}{k:List Key}(e:H a=some (.dT aA))(eb:H b=some (.tup (k.map kV))):tT H a (.ref b) (dO aA k):=.inr ⟨aA,k,b,.inl e,rfl,eb,rfl⟩
theorem AW.k {a:Addr}{aA:List (Key×V)}{k:Key}{v:V}(e:H a=some (.dK aA))(hl:aA.length < sizeLine):AW H a (kV k) v (upd H a (.dK (putK aA k v))):=.inl ⟨aA,k,e,rfl,hl,rfl⟩
theorem AW.t {a:Addr}{k:List Key}{v:V}(e:H a=some (.dT aA))(eb:H b=some (.tup (k.map kV)))(hl:aA.length < sizeLine):
   AW H a (.ref b) v (upd H a (.dT (putK aA k v))):=.inr ⟨aA,k,b,e,rfl,eb,hl,rfl⟩
section
variable {a:Addr}{v:V}{r:Value}
theorem Inv.big (I:Inv X pins σ H s):sysModules < s.heap.objs.size:=by
 have h:mainGlobals < s.heap.objs.size:=(I.mod.glob.keeps I.bk).lt;exact Nat.lt_trans RF h
theorem Gy (hu:A.units + 1 < cLine)(I:Inv X pins σ H s)(g:tT H a y (some v))(ry:RelV y u)(h:∀w' s',Inv X pins σ H s'->RelV v w'->Q w' s'):
   wpAny (model X.prog X.w) A (getItem (.ref a) u) Q E s:=by
 rcases g with ⟨aA,k,e,ey,l⟩ | ⟨aA,k,b,e,ey,eb,l⟩
 . subst ey;obtain⟨z,hd,vs,rel,dd⟩:=Ey I.c7 e;obtain⟨w',hw,rw'⟩:=oh.some_of (v:=v) (o:=valueAt vs k) (by rw[l];exact rel.val k);exact wpAny_getItem_of (AV ry) dd.mapOf hw (h w' _ (I.tok _) rw')
 . subst ey;cases(show u=Value.ref b from ry);obtain⟨z,hd,xs,rel,dd⟩:=Jm I.c7 e;obtain⟨w',hw,rw'⟩:=oh.some_of (v:=v) (o:=(atKey xs k).map (·.2)) (by rw[l];exact rel.val k);obtain⟨p,hp,lg⟩:=bj.mp hw;refine wpAny_getItem_heap (tupleKind_room_in1 hu) (CS I.c7 eb) dd hp ?_;rw[lg];exact h w' _ (I.tok _) rw'
theorem zo {ob:HO}(I:Inv X pins σ H s)(mu:Ur (H a))(hs:Heap.SameBut a s.heap h')(he:∃q,h'.get? a=some q)(new:cO X.prog X.w (upd H a ob) h' a ob):
   Inv X pins σ (upd H a ob) { s with heap:=h',toks:=t' }:=
 I.write (x:=a) (e:=a) mu (.inl rfl) (λb q hb z=>(hs.2 b hb).trans z) he new
theorem Jo {aA:List (Key×V)}{vs:List (Key×Value)}(z:aA.length<=sizeLine)(hd:(a==sysModules)=false)(rel:KV aA vs)(dd:h'.DictOf (c9 P w) a vs):
   cO P w H' h' a (.dK aA):=⟨z,hd,vs,rel,dd⟩
theorem Gz {Q:Unit->Shared->Prop}(hu:A.units + 1 < cLine)(I:Inv X pins σ H s)(g:AW H a y v H')(ry:RelV y u)(rv:RelV v r)(h:∀s',Inv X pins σ H' s'->Q () s'):
   wpAny (model X.prog X.w) A (setItem (.ref a) u r) Q E s:=by
 rcases g with ⟨aA,k,e,ey,l,eH⟩ | ⟨aA,k,b,e,ey,eb,l,eH⟩
 . subst ey eH;obtain⟨z,hd,vs,rel,dd⟩:=OJ I.c7 e;have hz:vs.length<=sizeLine:=by rw[<- rel.length];exact z
   have hl:(putK aA k v).length<=sizeLine:=by have:=jh aA k v;omega
   refine wpAny_setItem_pairs (hsz:=hz) (AV ry) dd λh' dd' hs=>h _ ?_;have he:∃q,h'.get? a=some q:=let ⟨q,_,_,hq,_⟩:=dd';⟨q,hq⟩;exact zo I (by rw[e];exact True.intro) hs he (Jo hl hd (rel.put k rv) dd')
 . subst ey eH;cases(show u=Value.ref b from ry);obtain⟨z,hd,xs,rel,dd⟩:=US I.c7 e;have hz:xs.length<=sizeLine:=by rw[<- xc rel];exact z
   have hl:(putK aA k v).length<=sizeLine:=by have:=jh aA k v;omega
   refine wpAny_setItem_heap (hsz:=hz) (tupleKind_room_in1 hu) (CS I.c7 eb) dd λh' dd' hs=>h _ ?_;obtain⟨q,es,ep,hq,h2,h3,h4,_,h5⟩:=dd';refine zo I (by rw[e];exact True.intro) hs ⟨q,hq⟩ ⟨hl,hd,_,(rel.put k eb rv).keeps λc ys ec=>?_,q,es,ep,hq,h2,h3,h4,h5⟩;rw[au (OA ec e (λz=>nomatch z))];exact ec
end
section
variable {a:Addr}{aA:List (Key×V)}{k:Key}
end
def QT (i:Expr):Prop:=∀ov iv,subscripted i false ov iv=operate [ov,iv] (getItem ov iv)
theorem MV {env:Env}{value slice:Expr}{id:String}
   (hl:typeLookup (.type T) "__getitem__"=pure (some (.builtin id))) (hs:QT slice)
   (h:wpAny (model prog w) A (eval value env) (λo s₁=>wpAny (model prog w) A (eval slice env) (λi s₂=>s₂.TypeIs o T/\wpAny (model prog w) A (getItem o i) Q E s₂) E s₁) E s):
   wpAny (model prog w) A (eval (.Subscript value slice pos) env) Q E s:=by
 refine Subscript_ (Fu h (λo s₁ h₁=>Fu h₁ (λi s₂ h₂=>?_) λ_ _ x=>x) λ_ _ x=>x);obtain⟨hT,h₂⟩:=h₂;unfold subscriptTail;refine B1 ?_;rw[getitemInPython_of_ne hT.not_modules];refine B1 (NM hT hl ?_);have fin:wpAny (model prog w) A (subscripted slice false o i) (λr s₃=>wpAny (model prog w) A (letTemporaryGo value o r >>=λ_=>pure r) Q E s₃) E s₂:=by
   rw[hs o i];exact wpAny_operating (Fu h₂ (λr s₃ h₃=>B1 (wpAny_letTemporaryGo (B2 h₃))) λ_ _ x=>x)
 first
   | exact B2 (B1 fin)
   | exact B1 (B2 (B1 fin))
   | exact B1 fin
theorem AX {a:Addr}(I:Inv X pins σ H s)(g:tT H a y o):s.TypeIs (.ref a) "dict":=by
 rcases g with ⟨aA,k,e,_,_⟩ | ⟨aA,k,b,e,_,_,_⟩
 . obtain⟨_,_,vs,_,dd⟩:=Ey I.c7 e;exact dd.typeIs
 . obtain⟨_,_,xs,_,dd⟩:=Jm I.c7 e;exact dd.typeIs
def Ez (td ty:TE):TE:=λσ H Q=>td σ H λx H1=>ty σ H1 λy H2=>∃a v,x=.ref a/\tT H2 a y (some v)/\Q v H2
def Jp (td ty tv:TE):TS:=λD σ H=>tv σ H λv H1=>td σ H1 λx H2=>ty σ H2 λy H3=>∃a H4,x=.ref a/\AW H3 a y v H4/\D.nx σ H4
section
variable {o i value:Expr}{pos' UI:Pos}{td ty tv:TE}
theorem MX (hu:X.A.units + 1 < cLine)(ho:PE X o td)(hi:PE X i ty)(hs:QT i):PE X (.Subscript o i pos) (Ez td ty):=by
 intro pins s σ H Q I h;refine MV PySem.F.slot_dict_getitem.lookup hs (bI (ho pins s σ H _ I h) λu s1 ⟨x,H1,I1,rx,q1⟩=>bI (hi pins s1 σ H1 _ I1 q1) λiv s2 ⟨y,H2,I2,ry,a,v,ex,g,q2⟩=>?_);subst ex;obtain rfl:u=Value.ref a:=rx;exact⟨AX I2 g,Gy hu I2 g ry λw' s3 I3 rw'=>⟨v,H2,I3,rw',q2⟩⟩
theorem MY (hu:X.A.units + 1 < cLine)(ho:PE X o td)(hi:PE X i ty)(hv:PE X value tv)(hs:swapsWith value (some (.Subscript o i pos')) pos.line X.env=pure false):
   PS X (.Assign [.Subscript o i pos'] value pos) (Jp td ty tv):=by
 intro pins s σ H D I h;refine wpAny_Assign_Subscript (bI (hv pins s σ H _ I h) λr s1 ⟨v,H1,I1,rv,q1⟩=>bI (ho pins s1 σ H1 _ I1 q1) λu s2 ⟨x,H2,I2,rx,q2⟩=>bI (hi pins s2 σ H2 _ I2 q2) λiv s3 ⟨y,H3,I3,ry,a,H4,ex,g,q3⟩=>?_) hs;subst ex;obtain rfl:u=Value.ref a:=rx;exact Gz hu I3 g ry rv λs4 I4=>⟨σ,H4,I4,q3⟩
end
theorem AY (h:Heap)(hb:sysModules < h.objs.size):cO P w H (h.push { cls:=.type "dict",data:=.dict #[] }) h.objs.size (.dK []):=
 ⟨hU _,beq_eq_false_iff_ne.mpr (Ne.symm (cv hb)),[],.nil,Heap.DictOf.new h⟩
abbrev VV:List (V×V)->List (Value×Value)->Prop:=Paired λp q=>RelV p.1 q.1/\RelV p.2 q.2
def zp (aA more:List (Key×V)):List (Key×V):=more.foldl (λacc kv=>putK acc kv.1 kv.2) aA
theorem KV.merge:∀{more:List (Key×V)}{rs:List (Key×Value)}{aA:List (Key×V)}{vs:List (Key×Value)},KV more rs->KV aA vs->KV (zp aA more) (merged vs rs):=by
 intro more rs aA vs r;unfold KV at r;induction r generalizing aA vs with
 | nil=>intro q;exact q
 | @cons p q ps qs h t ih=>
   intro r0;have e:KV (putK aA p.1 p.2) (stored vs q.1 q.2):=by
     have:=r0.put p.1 h.2;rw[<- h.1];exact this
   exact ih e
theorem uO {P:Program}{w:World}:∀{aA:List (Key×V)}{ws:List (Value×Value)},VV (aA.map λkv=>(kV kv.1,kv.2)) ws->∃rs,Carries (c9 P w) ws rs/\KV aA rs
 | [],_,r=>by rw[List.map_nil]at r;cases r;exact⟨[],True.intro,.nil⟩
 | p::aA,_,r=>by
   rw[List.map_cons]at r;cases r with
   | @cons a b as bs h t=>
     obtain⟨rs,c,q⟩:=uO (P:=P) (w:=w) t;obtain⟨b1,b2⟩:=b;exact⟨(p.1,b2)::rs,⟨AV h.1,rfl,c⟩,.cons ⟨rfl,h.2⟩ q⟩
section
variable {a:Addr}{d:V}{r:Value}
end
section
variable {o f:Expr}{apos jX:Pos}{td ty tx:TE}
end
section
variable {a:Addr}{aA:List (Key×V)}
end
section
variable {a:Addr}
end
end L2
namespace Att
open PySem PySem.W PySem.Calls PyProof.Rows
variable{h:Heap}{n:Nat}{P:Params}
theorem tU :∀(ns:List Int) (vs:List Value),WellAll P h vs (ns.map WData.int)->IntsAre vs ns:=by
 intro ns;induction ns with
 | nil=>
   intro vs w;rw[List.map_nil]at w;cases w;exact .nil
 | cons n ns ih=>
   intro vs w;rw[List.map_cons]at w;cases w with
   | cons a b=>
     cases a;exact .cons _ _ (ih _ b)
theorem GC {l:OpenLaw}(hn:l.most=some n){args:List WData}{vals:List Value}
   (MZ:l.row.toRowW.claim.pre args=true) (Yy:WellAll P h vals args):
   ∃a vs ns,vals=[Value.ref a]/\args=[WData.list (ns.map WData.int)]/\h.get? a=some { cls:=.type "list",data:=.seq vs.toArray }/\IntsAre vs ns/\ns.length<=n:=by
 have hsh:WShape.hasAll [] args [.list .int]=true:=(pre_splitW MZ).1;have hc:l.pre.holds [] { args:=args }=true:=(pre_splitW MZ).2;obtain⟨d,r,rfl,h1,h2⟩:=hasAllW_cons hsh;obtain rfl:=hasAllW_nil h2;obtain⟨xs,rfl,h3⟩:=hasW_list h1;obtain⟨ns,rfl⟩:=items_int h3;have hlen:ns.length<=n:=by
   unfold OpenLaw.pre at hc;have h4:(WTm.not (.lt (.lit (.int (n:Int))) (.len (.arg 0)))).holds [] { args:=[.list (ns.map .int)] }=true:=by
     have h4:=(holds_andW hc).1;rw[hn]at h4;exact h4
   have h5:=condW_of h4 (w_not (w_lt w_lit (w_len_list (w_arg rfl))));rw[ab]at h5;refine Nat.le_of_not_lt λq=>?_;have q':(n:Int) < ((ns.length:Nat):Int):=QR
   first
     | (rw[Dx q']at h5;exact absurd h5 RF)
     | (simp at h5;omega)
 cases Yy with
 | cons w1 w2=>
   cases w2;cases w1 with
   | list ho zg=>exact⟨_,_,ns,rfl,rfl,ho,tU ns _ zg,hlen⟩
theorem GD (l:OpenLaw)(args:List WData):l.row.toRowW.claim.post args (.bool true) args=true:=
 postW_of (r:=l.row.toRowW) (X:=(true==true))
   (show WShape.has [] (.bool true) .bool=true by first | rfl | decide | simp[WShape.has,WShape.arms,WShape.armsAll])
   (show(WTm.eq .res (.lit (.bool true))).value [] { args:=args,res:=some (.bool true),after:=args }=some (.bool (true==true)) from w_eq_bool (w_res rfl) w_lit) rfl
theorem AZ {l:OpenLaw}{q:Program}{loose:List Str}{XP:(Str->Option Value)->Heap->Prop}{YP:World->Heap->Prop}{d:DefRec}
   (hn:l.most=some n) (UT:d.params.defaults=[])
   (call:∀(w:World) (s₀ s₁:Shared) (mg mb:Str->Option Value) (fa:Addr) (o:Obj) (pm cd doc:Value) (a:Addr) (vs:List Value) (ns:List Int),
     Ground q loose [] XP w s₀ mg mb s₁.heap->YP w s₁.heap->
     s₁.heap.get? fa=some o->o.data=.func (docDef d.name d.params d.body d.scope pm cd doc)->s₁.heap.CodeRec cd d.name->mg d.name=some (.ref fa)->
     s₁.heap.get? a=some { cls:=.type "list",data:=.seq vs.toArray }->IntsAre vs ns->ns.length<=n->s₁.gens=#[]->
     codeAny (model l.prog w) callerA (.call (.ref fa) ⟨[.ref a],[]⟩) (λr s'=>r=.ok (.ret (.bool true))/\OldK s₁.heap s'.heap/\s'.os=s₁.os/\AllBare s'.gens) s₁):
   WalkO q loose XP YP l.row.toRowW d [] (λf vs=>PySem.call f vs):=by
 intro w s₀ s₁ mg mb G Y fa o pm cd doc dV kV ho hd Cs hD hmg hg args vals as MZ hlay hrd Yy WX;obtain rfl:dV=.none:=Dflts.none hD UT;obtain rfl:kV=.none:=Dflts.noKw hD;obtain⟨a,vs,ns,rfl,rfl,hobj,hints,hlen⟩:=GC hn MZ Yy;refine enter_call (Kt (call w s₀ s₁ mg mb fa o pm cd doc a vs ns G Y ho (fd_plain hd) Cs hmg hobj hints hlen hg) λr s' hq=>?_);obtain⟨rfl,h2,h3,h4⟩:=hq;exact⟨.inl ⟨.bool true,.bool true,[],rfl,λ_=>rfl,.bool true,GD l _,λ_=>⟨List.Pairwise.nil,λ_ hm=>(nomatch hm)⟩⟩,h2,h3,h4⟩
section
variable {prog:Program}{w:World}{A:Around}{E:Value->Shared->Prop}{s:Shared}{K:Frag}
end
end Att
namespace L2
open PySem PySem.Spec PyProof.Rows
variable{CX:AO}{C D S T f it p q:Addr}{A:Around}{sl:Array (Option Value)}{L:Bool}{op:CmpOp}{X:Cx}{env:Env}{e elt iter tg:Expr}{fd:FuncData}{o:HO}{base h h':Heap}{H H' H1 H2:Hp}{M:Int->Prop}{J:It}{pins:List (Addr×Obj)}{src:List (Option Nat)}{ch fp:List Addr}{es ifs:List Expr}{ns:List Int}{ps:List Str}{Bb acc xs:List V}{F N:List V->St->Hp->Prop}{us:List Value}{ep i j j1 m n t':Nat}{tn:Nat->Heap->Prop}{od:Option Addr}{p2 pos tp:Pos}{P prog:Program}{R:Result->Shared->Prop}{sc scope:Scope}{s s':Shared}{sp:Sp}{σ:St}{name qual x y:Str}{mg:Str->Option Value}{ta:TA}{te tl:TE}{g:TG}{wi:TI}{tb:TS}{α:Type}{Q:VK}{E:Value->Shared->Prop}{w:World}
theorem yh {vs:List Value}{ns:List Int}(h:IntsAre vs ns):Vals (ns.map V.int) vs:=by
 induction h with
 | nil=>exact .nil
 | cons n t h ih=>exact .cons ⟨t,rfl⟩ ih
def M1 (H:Hp):Prop:=∀b,H b=none∨∃o xs,H b=some (.sP o (.lst xs))
theorem Jq {K:Frag}{mb:Str->Option Value}{k:Nat}{fa a:Addr}{s₁:Shared}{vs:List Value}
   (KX:K.In s₁.heap) (QU:s₁.heap.Ns mainGlobals mg) (hb:s₁.heap.Ns builtinsNs mb) (hbb:∀x:Str,x≠"__name__"->mb x=bootBuiltins x) (Yz:s₁.heap.NoLimit) (hg:s₁.gens=#[])
   (ha:s₁.heap.get? a=some { cls:=.type "list",data:=.seq vs.toArray }) (hi:IntsAre vs ns) (hl:ns.length<=sizeLine) (hr:dB k callerA)
   (F:∀base:Heap,K.In base->base.Ns mainGlobals mg->dH P w K mg base CX k fa fd [x] sp) (UU:∀(s:Shared) (u:Value),BindsTo s fd ⟨[u],[]⟩ [(x,u)])
   (OF:∀H:Hp,M1 H->aR K H a (ns.map V.int)->sp [.ref a] H (λv _=>v=.bl true) λ_ _ _=>False)
   (YA:∀H e s',CX [] H s₁ (λ_ _ _=>False) e s'->False):
   codeAny (model P w) callerA (.call (.ref fa) ⟨[.ref a],[]⟩) (λr s'=>r=.ok (.ret (.bool true))/\OldK s₁.heap s'.heap/\s'.os=s₁.os/\AllBare s'.gens) s₁:=by
 have rv:=yh hi;have YB:=hi.length;have core:∀H:Hp,M1 H->aR K H a (ns.map V.int)->pB P w H s₁.heap->(∀b,H b≠none->b=a)->(H a≠none->K.lookup a=none)->
     codeAny (model P w) callerA (.call (.ref fa) ⟨[.ref a],[]⟩) (λr s'=>r=.ok (.ret (.bool true))/\OldK s₁.heap s'.heap/\s'.os=s₁.os/\AllBare s'.gens) s₁:=by
   intro H hO hS c7 hA hK;have EA:∀{b:Addr}{o:Obj},s₁.heap.get? b=some o->H b=none->(zd s₁.heap H).get? b=some o:=λe n=>IE e n;have UK:∀{b:Addr}{o:Obj}{es:Array DictEntry}{ep:Nat},s₁.heap.get? b=some o->o.data=.dict es ep->H b=none:=λ{b o es ep} e d=>by
     cases q:H b with
     | none=>rfl
     | some u=>
       have e':b=a:=hA b (by rw[q];simp);subst e';rw[ha]at e;cases e;have d':Data.seq vs.toArray _=Data.dict es ep:=d;cases d'
   have Xb:∀{b:Addr}{m:Str->Option Value},s₁.heap.Ns b m->(zd s₁.heap H).Ns b m:=λ{b m} ⟨o,es,ep,e,d,r⟩=>⟨o,es,ep,EA e (UK e d),d,r⟩
   have hKb:K.In (zd s₁.heap H):=λb o e=>EA (KX b o e) (by
     cases q:H b with
     | none=>rfl
     | some u=>
       have e':b=a:=hA b (by rw[q];simp);subst e';rw[hK (by rw[q];simp)]at e;cases e)
   have hM:Mod K mg (zd s₁.heap H):=⟨hKb,Xb QU,⟨mb,Xb hb,hbb⟩,let ⟨mc,h1,h2⟩:=Yz;⟨mc,Xb h1,h2⟩⟩
   have e0:CJ P w K mg (zd s₁.heap H) callerA [] s₁ H:=⟨rfl,hM,λb o e=>Mq e,xv (Gd _ _),trivial,λb hb=>absurd (show b∈([]:List Addr) from hb) RR,c7,.of_eq hg⟩
   refine Kt ((F _ hKb (Xb QU)).run callerA [] s₁ H ⟨[.ref a],[]⟩ [.ref a] [.ref a] _ _ hr e0 (UU s₁ (.ref a)) (.cons rfl .nil) (OF H hO hS)) λr s' h=>?_;cases r with
   | error e=>exact(YA H e s' h).elim
   | ok fl=>
     cases fl with
     | next=>exact False.elim h
     | brk=>exact False.elim h
     | cont=>exact False.elim h
     | ret u=>
       obtain⟨v,H',os,bare,un,hok',r',q⟩:=h;have q':v=.bl true:=q;subst q';obtain rfl:u=Value.bool true:=r';refine⟨rfl,OldK.of_keep λb o e=>?_,os,bare⟩;cases q:H b with
       | none=>exact un.keep b o e q (by intro z;exact absurd (show b∈([]:List Addr) from z) RR) RR
       | some u=>
         rcases hO b with z | ⟨ob,xs,z⟩
         . rw[q]at z;cases z
         . have z2:=un.rH b ob _ z;obtain⟨e1,_⟩:=c7 b _ z;obtain⟨e2,_⟩:=hok' b _ z2;rw[e]at e1;cases e1;exact e2
 cases hk:K.lookup a with
 | some o=>
   have e:=KX a o hk;rw[ha]at e;cases e;refine core (λ_=>none) (λ_=>.inl rfl) (.inr ⟨_,vs.toArray,_,hk,rfl,rfl,rfl,by rw[cp,YB];exact hl,by simpa using rv⟩) (λb u z=>by have z':(none:Option HO)=some u:=z;cases z') (λb z=>absurd rfl z) λz=>absurd rfl z
 | none=>
   refine core (λb=>if b=a then some (.sP { cls:=.type "list",data:=.seq vs.toArray } (.lst (ns.map V.int))) else none) (λb=>?_) (.inl (.inr ⟨{ cls:=.type "list",data:=.seq vs.toArray },Fh rfl⟩)) (λb u z=>?_) (λb z=>?_) λ_=>hk
   . by_cases hb:b=a
     . exact .inr ⟨_,_,Fh hb⟩
     . exact .inl (Ee hb)
   . by_cases hb:b=a
     . have z':=(Fh hb).symm.trans z;cases z';subst hb;exact⟨ha,by rw[ab];exact hl,vs,_,rv,ha⟩
     . have z':=(Ee hb).symm.trans z;cases z'
   . by_cases hb:b=a
     . exact hb
     . exact absurd (Ee hb) z
theorem M3 {l:PySem.W.OpenLaw}{k:Nat}{q:Program}{loose:List Str}{XP:(Str->Option Value)->Heap->Prop}{YP:World->Heap->Prop}{d:DefRec}{K:Params->Frag}{CX:World->AO}{sp:World->Sp}
   (hn:l.most=some n) (W7:n<=sizeLine) (UT:d.params.defaults=[]) (hr:dB k callerA)
   (hY:∀(w:World) (h:Heap),YP w h->(K w.params).In h)
   (F:∀(w:World) (mg:Str->Option Value) (fa:Addr) (h:Heap),(K w.params).In h->h.Ns mainGlobals mg->mg d.name=some (.ref fa)->
     ∃fd:FuncData,(∀(s:Shared) (u:Value),BindsTo s fd ⟨[u],[]⟩ [(x,u)])/\
       ∀base:Heap,(K w.params).In base->base.Ns mainGlobals mg->dH l.prog w (K w.params) mg base (CX w) k fa fd [x] (sp w))
   (OF:∀(w:World) (H:Hp) (a:Addr) (ns:List Int),ns.length<=n->M1 H->aR (K w.params) H a (ns.map V.int)->sp w [.ref a] H (λv _=>v=.bl true) λ_ _ _=>False)
   (YA:∀(w:World) (H:Hp) (s:Shared) (e:Value) (s':Shared),CX w [] H s (λ_ _ _=>False) e s'->False):
   PySem.W.WalkO q loose XP YP l.row.toRowW d [] (λf vs=>PySem.call f vs):=by
 refine Att.AZ hn UT λw s₀ s₁ mg mb fa o pm cd doc a vs ns G Y ho hd Cs hmg hobj hints hlen hg=>?_;have KX:=hY w _ Y;obtain⟨fd,hb,hF⟩:=F w mg fa _ KX G.T.g hmg;exact Jq KX G.T.g G.T.b G.T.builtins G.T.nolimit hg hobj hints (cn hlen W7) hr hF hb (λH hO hS=>OF w H a ns hlen hO hS) λH e s'=>YA w H s₁ e s'
abbrev oH:AO:=λ_ _ _ _ _ _=>False
abbrev E0:XK:=λ_ _ _=>False
theorem yi :Passes oH X E0:=λ_ _ _ _ _ _ _ h=>h.elim
structure bQ (K:Frag)(x qual:Str)(st:Stmt)(f:Addr)(fd:FuncData):Prop where
 ex:∃(oc:Value) (od:Option Addr) (kV doc pm:Value) (an:Option Addr) (eV ct:Value) (Gu:Array (Option Value)),
   fd=fnOf x qual (cK st) (aj st) (aL st) .none kV doc pm an eV ct/\K.lookup f=some ⟨oc,od,.func fd,Gu⟩/\codeIn K eV qual=true
 kp:keepIn K (.ref f)=true
section
variable {K:Frag}
theorem bQ.ok {st:Stmt}{N:List Str}{k:Nat}(F:bQ K x qual st f fd)(S:eg N ps (aL st))(len:∀vs H Q E,sp vs H Q E->vs.length=ps.length)
   (iP:∀(eV:Value) (A:Around) (outer:List Env) (s:Shared) (H:Hp) (vs:List V) (Q:VK) (E:XK),dB k (A.deeper (envOfC qual (aL st) s.heap.objs.size f eV))->sp vs H Q E->
     ∃t,Ce (qj oH P w K mg base N qual (aL st) f eV A outer s H E).Mc (aj st) t/\t { nx:=λ_ H'=>Q .bO H',rt:=Q } (start N vs) H):dH P w K mg base oH (k + 1) f fd ps sp:=by
 obtain⟨oc,od,kV,doc,pm,an,eV,ct,Gu,rfl,lk,Cs⟩:=F.ex;refine UL lk Cs S len λA outer s H vs Q E hr OF=>?_;obtain⟨t,h,q⟩:=iP eV A outer s H vs Q E hr OF;exact⟨t,h.Mc,q⟩
theorem bQ.binds {st:Stmt}(F:bQ K x qual st f fd)
   (h:∀(kV doc pm:Value) (an:Option Addr) (eV ct:Value) (us:List Value),us.length=ps.length->bindArgs (fnOf x qual (cK st) (aj st) (aL st) .none kV doc pm an eV ct) ⟨us,[]⟩=pure (ps.zip us)):Binds K fd ps []:=by
 obtain⟨oc,od,kV,doc,pm,an,eV,ct,Gu,rfl,lk,Cs⟩:=F.ex;exact .all (h kV doc pm an eV ct)
theorem zq {st:Stmt}{oc:Value}{an:Option Addr}{Gu:Array (Option Value)}{kV doc pm eV ct:Value}(l:K.lookup f=some ⟨oc,od,.func (fnOf x qual (cK st) (aj st) (aL st) .none kV doc pm an eV ct),Gu⟩)
   (c:codeIn K eV qual=true) (k:keepIn K (.ref f)=true):bQ K x qual st f (fnOf x qual (cK st) (aj st) (aL st) .none kV doc pm an eV ct):=⟨⟨oc,od,kV,doc,pm,an,eV,ct,Gu,rfl,l,c⟩,k⟩
end
theorem GF (h:n<=1000):n < sizeLine:=dt h RF
theorem UW {A B:Prop}(h:A):if true=true then A else B:=by
 rw[Fh rfl];exact h
theorem ju {c A B:Prop}[Decidable c](h1:c->A)(h2:¬ c->B):if c then A else B:=by
 by_cases h:c
 . rw[Fh h];exact h1 h
 . rw[Ee h];exact h2 h
def qo (H H':Hp):Prop:=∀b o,H b=some o->H' b=some o
theorem qo.refl (H:Hp):qo H H:=λ_ _ h=>h
theorem qo.trans (a:qo H H1)(b:qo H1 H2):qo H H2:=λc o h=>b c o (a c o h)
theorem qo.free (e:qo H H'){l:Addr}(h:H' l=Option.none):H l=Option.none:=by
 cases q:H l with
 | none=>rfl
 | some o=>
   rw[e l o q]at h;cases h
theorem qo.seq {K:Frag}{a:Addr}(e:qo H H')(h:aR K H a xs):aR K H' a xs:=by
 rcases h with (h | ⟨o,h⟩) | h
 . exact .inl (.inl (e _ _ h))
 . exact .inl (.inr ⟨o,e _ _ h⟩)
 . exact .inr h
section
variable {κ:Type}[DecidableEq κ]
end
def CDv (_ j:Int):Prop:=0 < j/\j < 10 ^ 100
theorem lR:iM X (binaryOp .FloorDiv) (rI CDv λi j=>.int (i / j)):=W6 λi j _ _ _ _ _ hc q=>by
 have h0:0 < j:=hc.1;have h1:j < 10 ^ 100:=hc.2;refine floordiv_int QR ?_ (.inl (PyProof.noPylong_of_log2 ?_))
 . rw[Int.fdiv_eq_ediv_of_nonneg _ QR];exact q
 . have h2:j.natAbs < 10 ^ 100:=QR
   have h3:(10:Nat) ^ 100<=2 ^ 9000:=Q1
   exact(Nat.log2_lt QR).mpr (bp h2 h3)
structure Callee (P:Program)(w:World)(K:Frag)(mg:Str->Option Value)(base:Heap)(x:Str)(k:Nat)(ps:List Str)(sp:Sp):Prop where
 ex:∃(f:Addr) (fd:FuncData),dH P w K mg base oH k f fd ps sp/\Binds K fd ps []/\keepIn K (.ref f)=true/\mg x=some (.ref f)
section
variable {k:Nat}{t:TA}{p:Pos}
theorem Jr (C:Callee X.prog X.w X.K X.mg X.base x k ps sp)(hr:dB k X.A)(hg:Gl X x)(ha:PA X (e::es) t)
   (wR:(x==("__debug__":Str))=false:=by decide) (he:starEach (e::es) X.env=(false,eval e X.env)::starEach es X.env:=by rfl) (nu:(backTo pos (starEach es X.env)).any (·.1)=false:=by rfl):
   PE X (.Call (.Name x p) (e::es) [] pos) (xX sp [] E0 t):=by
 intro pins s σ H Q I h;obtain⟨f,fd,F,b,kp,m⟩:=C.ex;have G:dH X.prog X.w X.K X.mg X.base (λ_ _ _ _ _ _=>False) k f fd ps sp:=F;exact MN F hr hg m kp b .nil yi ha wR he nu pins s σ H Q I h
end
def UX (t u:TS):TS:=λD σ H=>∃J:St->Hp->Prop,t { D with nx:=J } σ H/\∀σ1 H1,J σ1 H1->u D σ1 H1
section
variable {st:Stmt}{rest:List Stmt}{t u:TS}
theorem M4 (h1:PS X st t)(h2:Ce X rest u):Ce X (st::rest) (UX t u):=by
 intro pins s σ H D I h;obtain⟨J,h,hJ⟩:=h;refine wpAny_execs_cons (bI (h1 pins s σ H { D with nx:=J } I h) λf s1 q=>?_);cases f with
 | next=>
   obtain⟨σ',H',I',q⟩:=q;exact h2 pins s1 σ' H' D I' (hJ _ _ q)
 | ret v=>exact q
 | brk=>exact q
 | cont=>exact q
end
section
variable {a b c d:α}{r:List α}
theorem UY:kZ (a::r) 0=some a:=eB (j:=0) rfl
theorem UZ:kZ (a::b::r) 1=some b:=eB (j:=1) rfl
theorem U0:kZ (a::b::c::r) 2=some c:=eB (j:=2) rfl
theorem U1:kZ (a::b::c::d::r) 3=some d:=eB (j:=3) rfl
end
def uP (H:Hp)(p:Addr):Option (List V):=match H p with
 | some (.lst xs)=>some xs
 | some (.tup xs)=>some xs
 | some (.sP _ (.lst xs))=>some xs
 | _=>none
theorem GG (h:H p=some (.lst xs)):uP H p=some xs:=by unfold uP;rw[h]
theorem GH (h:H p=some (.tup xs)):uP H p=some xs:=by unfold uP;rw[h]
def YC:R2:=λx y H Q=>∃p i xs v,x=.ref p/\y=.int i/\uP H p=some xs/\kZ xs i=some v/\Q v H
theorem rO:ef X (.type "int") (λxs H Q=>∃k,xs=[.bl k]/\Q (.int (if k=true then 1 else 0)) H):=by
 intro pins s σ H xs us Q I r h;obtain⟨k,rfl,q⟩:=h;exact xV pins s σ H _ us Q I r (.inr ⟨k,rfl,q⟩)
theorem CT:bootBuiltins "len"=some (.builtin "len"):=Q1
theorem gI:bootBuiltins "isinstance"=some (.builtin "isinstance"):=Q1
theorem QV:bootBuiltins "max"=some (.builtin "max"):=Q1
theorem CU:bootBuiltins "min"=some (.builtin "min"):=Q1
theorem GJ:bootBuiltins "sorted"=some (.builtin "sorted"):=Q1
theorem gy:bootBuiltins "all"=some (.builtin "all"):=Q1
theorem uq:bootBuiltins "repr"=some (.builtin "repr"):=Q1
theorem rP:bootBuiltins "int"=some (.type "int"):=Q1
theorem EB:bootBuiltins "bool"=some (.type "bool"):=Q1
theorem CV:bootBuiltins "str"=some (.type "str"):=Q1
theorem cE:bootBuiltins "list"=some (.type "list"):=Q1
theorem gW:bootBuiltins "tuple"=some (.type "tuple"):=Q1
theorem zu:bootBuiltins "enumerate"=some (.type "enumerate"):=Q1
theorem CW:bootBuiltins "zip"=some (.type "zip"):=Q1
theorem A1:bootBuiltins "reversed"=some (.type "reversed"):=Q1
theorem QW:bootBuiltins "set"=some (.type "set"):=Q1
theorem cxK {K:Frag}{N:List Str}{cd:Value}{outer:List Env}{E:XK}:
   (qj CX P w K mg base N qual scope f cd A outer s H E).K=K:=rfl
theorem QX:CM 1 0=some 0:=rfl
theorem QY:CM 2 0=some 0:=rfl
theorem QZ:CM 2 1=some 1:=rfl
theorem Q2:CM 3 0=some 0:=rfl
theorem Q3:CM 3 1=some 1:=rfl
theorem Q4:CM 3 2=some 2:=rfl
theorem CY :uP (upd H p (.lst xs)) p=some xs:=GG af
theorem CZ :uP (upd H p (.tup xs)) p=some xs:=GH af
theorem Js {xs:List α}{k:Int}(h0:0<=k)(h1:k < (xs.length:Int)):∃v,kZ xs k=some v/\v∈xs:=by
 have hk:k.toNat < xs.length:=QR
 have e:k=((k.toNat:Nat):Int):=QR
 have q:kZ xs ((k.toNat:Nat):Int)=some xs[k.toNat]:=eB (a9 hk);rw[<- e]at q;exact⟨_,q,ph hk⟩
theorem Jt (h:n<=1000):n<=sizeLine:=fg (GF h)
section
variable {p1:Pos}{j2:Nat}
theorem M5 {a b:Int}(v:Int)(h:decide (0<=b/\b<=1000000/\a.natAbs < 2 ^ 64/\a ^ b.toNat=v)=true:=by decide +kernel):PE X (.BinOp (.Constant (.int a) j1 p1) .Pow (.Constant (.int b) j2 p2) pos) (tC (.int v)):=by
 intro pins s σ H Q I q;obtain⟨h1,h2,h3,h4⟩:=L9 h;refine OD Qv Ct Ct pins s σ H Q I ⟨a,b,rfl,rfl,⟨h1,h2,h3⟩,?_⟩;show Q (V.int (a ^ b.toNat)) H;rw[h4];exact q
end
theorem A3 {a b:Addr}:upd H a o b=none↔b≠a/\H b=none:=by
 unfold upd
 by_cases h:b=a
 . simp[h]
 . simp[h]
def Loop (J:It)(g:TG)(tb:TS)(D:Ends)(σ:St)(H:Hp):Prop:=∃W:Nat->Nat->St->Hp->Prop,(∃m,W 0 m σ H)/\∀i m σ H,W i m σ H->
 (J.stop i H/\D.nx σ H)∨(J.go i H/\∃N:St->Hp->Prop,(∀σ' H',N σ' H'->∃m',m' < m/\W (i + 1) m' σ' H')/\∀x H',J.Me i H x H'->g x σ H' λσ2 H2=>tb { D with nx:=N,ct:=N,bk:=D.nx } σ2 H2)
section
variable {K:Frag}{D:Ends}{a:Addr}{lo:Int}
theorem GL:oq (AL ta) g tb D σ H=ta σ H (λvs H1=>∃j:Int,vs=[.int j]/\-(2 ^ 62)<=j/\j < 2 ^ 62/\Loop (zf 0 j.toNat) g tb D σ H1):=rfl
theorem GN:oq (AM ta) g tb D σ H=ta σ H (λvs H1=>∃i j:Int,vs=[.int i,.int j]/\(-(2 ^ 62)<=i/\i < 2 ^ 62/\-(2 ^ 62)<=j/\j < 2 ^ 62)/\Loop (zf i (j - i).toNat) g tb D σ H1):=rfl
theorem GO:oq (qh K tl) g tb D σ H=tl σ H (λx H1=>∃a,x=.ref a/\(∃xs,aR K H1 a xs)/\Loop (sQ K a) g tb D σ H1):=rfl
theorem Ju:oq (Qq K tl) g tb D σ H=tl σ H (λx H1=>∃a,x=.ref a/\(∃xs,wK K H1 a xs)/\Loop (W4 K a) g tb D σ H1):=rfl
theorem jY (Pv:Nat->St->Hp->Prop)(h0:Pv 0 σ H)
   (hs:∀i σ H,i < n->Pv i σ H->g (.int (lo + i)) σ H λσ2 H2=>tb { D with nx:=Pv (i + 1),ct:=Pv (i + 1),bk:=D.nx } σ2 H2) (hd:∀σ H,Pv n σ H->D.nx σ H):Loop (zf lo n) g tb D σ H:=Gm Pv h0 hs hd
theorem dW (Pv:Nat->St->Hp->Prop)(h0:Pv 0 σ H)(hl:∀i σ H,i<=xs.length->Pv i σ H->aR K H a xs)
   (hs:∀i x σ H,xs[i]?=some x->Pv i σ H->g x σ H λσ2 H2=>tb { D with nx:=Pv (i + 1),ct:=Pv (i + 1),bk:=D.nx } σ2 H2) (hd:∀σ H,Pv xs.length σ H->D.nx σ H):Loop (sQ K a) g tb D σ H:=IU Pv h0 hl hs hd
end
structure JE (X:Cx)(e:Expr)(t:TE):Prop where h:PE X e t
structure JT (X:Cx)(e:Expr)(t:TT):Prop where h:PT X e t
structure JW (X:Cx)(e:Expr)(t:TT):Prop where h:PW X e t
structure JA (X:Cx)(es:List Expr)(t:TA):Prop where h:PA X es t
structure JS (X:Cx)(st:Stmt)(t:TS):Prop where h:PS X st t
structure JB (X:Cx)(st:List Stmt)(t:TS):Prop where h:Ce X st t
structure JG (X:Cx)(e:Expr)(t:TG):Prop where h:PG X e t
structure OL (X:Cx)(es:List Expr)(t:Ay):Prop where h:UC X es t
structure JI (X:Cx)(tg e:Expr)(t:TI):Prop where h:PI X tg e t
structure JO (X:Cx)(e:Option Expr)(t:TO):Prop where h:PO X e t
section
variable {a b c o:Expr}{rest:List Expr}{ta tb tc to:TE}{t tl:TA}{tA Mv:TT}{p p':Pos}{st:Stmt}{Mg U3:List Stmt}{u v:TS}
theorem ev (i:Nat)(hN:X.N[i]?=some x:=by rfl)(hv:SJ X.env.scope x:=by first | exact Or.inl rfl | exact Or.inr (Or.inl rfl) | exact Or.inr (Or.inr rfl))(hd:(x==("__debug__":Str))=false:=by decide)
   (Cs:(x==("__classdict__":Str))=false:=by decide):JE X (.Name x pos) (Gg i):=⟨P4 hN hv hd Cs⟩
theorem ei {i j}:JE X (.Constant (.int i) j pos) (tC (.int i)):=⟨Ct⟩
theorem rQ {b j}:JE X (.Constant (.bool b) j pos) (tC (.bl b)):=⟨Uy⟩
theorem iQ {j}:JE X (.Constant .none j pos) (tC .bO):=⟨P5⟩
theorem cJ {x j}:JE X (.Constant (.str x) j pos) (tC (.str x)):=⟨P6⟩
theorem iR {v:V}{u:Value}(hg:Gl X x)(hm:X.mg x=some u)(r:RelV v u)(hd:(x==("__debug__":Str))=false:=by decide):JE X (.Name x pos) (tC v):=⟨Mt hg hm r hd⟩
theorem jH {n:String}(hg:Gl X x)(hm:X.mg x=none)(hv:bootBuiltins x=some (.type n))(hn:x≠"__name__":=by decide)(hd:(x==("__debug__":Str))=false:=by decide):JE X (.Name x pos) (tC (.ty n)):=⟨Mu hg hm hv rfl hn hd⟩
theorem cA {op:Operator}{r:R2}(ho:iM X (binaryOp op) r)(ha:JE X a ta)(hb:JE X b tb):JE X (.BinOp a op b pos) (Gn r ta tb):=⟨OD ho ha.h hb.h⟩
theorem ji {a b:Int}{j2:Nat}{p1:Pos}(v:Int)(h:decide (0<=b/\b<=1000000/\a.natAbs < 2 ^ 64/\a ^ b.toNat=v)=true:=by decide +kernel):JE X (.BinOp (.Constant (.int a) j1 p1) .Pow (.Constant (.int b) j2 p2) pos) (tC (.int v)):=⟨M5 v h⟩
theorem Q5 {op:UnaryOp}{r:V->Hp->VK->Prop}(ho:W5 X (unaryOp op) r)(ha:JE X a ta):JE X (.UnaryOp op a pos) (Yq r ta):=⟨UD ho ha.h⟩
theorem Q6 (ha:JE X a ta):JE X (.UnaryOp .Not a pos) (Ei ta):=⟨Qe ha.h⟩
theorem gA {op}(h:JE X a ta):JE X (.BoolOp op [a] pos) ta:=⟨Qc h.h⟩
theorem eE (ha:JE X a ta)(hb:JE X (.BoolOp .And (b::rest) pos) tb):JE X (.BoolOp .And (a::b::rest) pos) (Eh ta tb):=⟨Qd ha.h hb.h⟩
theorem eor (ha:JE X a ta)(hb:JE X (.BoolOp .Or (b::rest) pos) tb):JE X (.BoolOp .Or (a::b::rest) pos) (Mw ta tb):=⟨Uz ha.h hb.h⟩
theorem YD (hc:JT X c tA)(ha:JE X a ta)(hb:JE X b tb):JE X (.IfExp c a b pos) (Yn tA ta tb):=⟨IG hc.h ha.h hb.h⟩
theorem fE {r:R2}(ho:iM X (compareOp op) r)(ha:JE X a ta)(hb:JE X b tb)(hm:behindInMarks op b=false):JE X (.Compare a [op] [b] pos) (Gn r ta tb):=⟨MF ho ha.h hb.h hm⟩
theorem C0 {Cz:CmpOp}{r r':R2}(ho:iM X (compareOp op) r)(Cr:iM X (compareOp Cz) r')(ha:JE X a ta)(hb:JE X b tb)(hc:JE X c tc)
   (hm:lastMarks [op,Cz] [b,c]=false:=by with_unfolding_all rfl):JE X (.Compare a [op,Cz] [b,c] pos) (pI r r' ta tb tc):=⟨IW ho Cr ha.h hb.h hc.h hm⟩
theorem tV {r:R2}(hr:OG X r)(ha:JE X a ta)(hb:JE X b tb)(hs:Eu b):JE X (.Subscript a b pos) (Gn r ta tb):=⟨UN hr ha.h hb.h hs⟩
theorem zv {r:V->Option Int->Option Int->Hp->VK->Prop}{lo hi:Option Expr}{tl th:TO}(hr:W8 X r)(he:JE X e te)(hl:JO X lo tl)(hu:JO X hi th):JE X (.Subscript e (.Slice lo hi none p) pos) (Yu r te tl th):=⟨Ji hr he.h hl.h hu.h⟩
theorem qp {k:Nat}(C:Callee X.prog X.w X.K X.mg X.base x k ps sp)(hr:dB k X.A)(hg:Gl X x)(ha:JA X (e::es) t)
   (wR:(x==("__debug__":Str))=false:=by decide) (he:starEach (e::es) X.env=(false,eval e X.env)::starEach es X.env:=by rfl) (nu:(backTo pos (starEach es X.env)).any (·.1)=false:=by rfl):
   JE X (.Call (.Name x p) (e::es) [] pos) (xX sp [] E0 t):=⟨Jr C hr hg ha.h wR he nu⟩
theorem bW {id:String}{r:List V->Hp->VK->Prop}(hc:ef X (.builtin id) r)(hg:Gl X x)(hm:X.mg x=none)(hv:bootBuiltins x=some (.builtin id))(ha:JA X (e::es) t)(hn:x≠"__name__":=by decide)(wR:(x==("__debug__":Str))=false:=by decide)
   (he:starEach (e::es) X.env=(false,eval e X.env)::starEach es X.env:=by rfl) (nu:(backTo pos (starEach es X.env)).any (·.1)=false:=by rfl):JE X (.Call (.Name x p) (e::es) [] pos) (QF r t):=⟨Jf hc hg hm hv ha.h hn wR he nu⟩
theorem dI {T:String}{r:List V->Hp->VK->Prop}(hc:ef X (.type T) r)(hg:Gl X x)(hm:X.mg x=none)(hv:bootBuiltins x=some (.type T))(ha:JA X (e::es) t)(hn:x≠"__name__":=by decide)(wR:(x==("__debug__":Str))=false:=by decide)
   (he:starEach (e::es) X.env=(false,eval e X.env)::starEach es X.env:=by rfl) (nu:(backTo pos (starEach es X.env)).any (·.1)=false:=by rfl):JE X (.Call (.Name x p) (e::es) [] pos) (QF r t):=⟨Gv hc hg hm hv ha.h hn wR he nu⟩
theorem U4 {T id:String}{r:V->List V->Hp->VK->Prop}{apos jX:Pos}(pa:PlainAttrs T)(slot:Slot T name id)(QL:typeOf (.builtin id)=pure (.type "method_descriptor"))(hm:W9 X id r)(ho:JE X o to)
   (uM:attributeBase o name X.env (eval o X.env)=eval o X.env:=by rfl) (uN:(apos.endLine==jX.line)=true:=by rfl):JE X (.Call (.Attribute o name apos) [] [] jX) (QJ X.K T r to):=⟨QK pa slot QL hm ho.h uM uN⟩
theorem SN {T id:String}{r:V->List V->Hp->VK->Prop}{apos jX:Pos}(pa:PlainAttrs T)(slot:Slot T name id)(QL:typeOf (.builtin id)=pure (.type "method_descriptor"))(hm:W9 X id r)(ho:JE X o to)(ha:JA X (e::es) t)
   (uM:attributeBase o name X.env (eval o X.env)=eval o X.env:=by rfl)
   (QM:((backTo jX (starEach (e::es) X.env)).all (λx=>!x.1)&&(backToKw jX (keywordEach [] X.env)).all (λx=>x.1.isSome)
     &&decide ((e::es).length + ([]:List Keyword).length + (if ([]:List Keyword).isEmpty then 0 else 1) < 30))=true:=by rfl)
   (uN:(apos.endLine==jX.line)=true:=by rfl) (hs:starEach (e::es) X.env=(false,eval e X.env)::starEach es X.env:=by rfl) (CP:(backTo jX (starEach es X.env)).any (·.1)=false:=by rfl):
   JE X (.Call (.Attribute o name apos) (e::es) [] jX) (Yx X.K T r to t):=⟨UP pa slot QL hm ho.h ha.h uM QM uN hs CP⟩
theorem ah:JA X [] wQ:=⟨QA⟩
theorem aa (ha:JE X e te)(hr:JA X es t)(hs:starEach (e::es) X.env=(false,eval e X.env)::starEach es X.env:=by rfl):JA X (e::es) (qi te t):=⟨MM ha.h hr.h hs⟩
theorem cg {r:R2}(ho:iM X (compareOp op) r)(ha:JE X a ta)(hb:JE X b tb)(hm:behindInMarks op b=false):JT X (.Compare a [op] [b] pos) (uJ (Gn r ta tb)):=⟨MG ho ha.h hb.h hm⟩
theorem C1 {Cz:CmpOp}{r r':R2}(ho:iM X (compareOp op) r)(Cr:iM X (compareOp Cz) r')(ha:JE X a ta)(hb:JE X b tb)(hc:JE X c tc)
   (hm:lastMarks [op,Cz] [b,c]=false:=by with_unfolding_all rfl):JT X (.Compare a [op,Cz] [b,c] pos) (uJ (pI r r' ta tb tc)):=⟨IX ho Cr ha.h hb.h hc.h hm⟩
theorem dG (h:JE X e te)(he:∀whole,isTrue e X.env whole=(do let v <- whole;standAt e.pos;holding [v] (truthy v)):=by intro _;rfl):JT X e (tB te):=⟨P7 h.h he⟩
theorem uQ (ha:JE X a ta)(he:∀whole,isTrue a X.env whole=(do let v <- whole;standAt a.pos;holding [v] (truthy v))):
   JT X a (λσ H Q=>ta σ H λx H'=>∃k,Qw X.K x H' k/\Q k H'):=⟨IY ha.h he⟩
theorem dZ (ha:JT X a tA):JT X (.UnaryOp .Not a pos) (P9 tA):=⟨Qa ha.h⟩
theorem tw (h:JW X e tA):JT X e tA:=⟨PW.pt h.h⟩
theorem A4 (ha:JT X a tA):JW X (.BoolOp .And [a] pos) tA:=⟨pw_and1 ha.h⟩
theorem je (ha:JT X a tA):JW X (.BoolOp .Or [a] pos) tA:=⟨pw_or1 ha.h⟩
theorem Jv (ha:JT X a tA)(hb:JW X (.BoolOp .And (b::rest) pos) Mv):JW X (.BoolOp .And (a::b::rest) pos) (P8 tA Mv):=⟨pw_and ha.h hb.h⟩
theorem rR (ha:JT X a tA)(hb:JW X (.BoolOp .Or (b::rest) pos) Mv):JW X (.BoolOp .Or (a::b::rest) pos) (Ym tA Mv):=⟨pw_or ha.h hb.h⟩
theorem b8:JB X [] II:=⟨Mx⟩
theorem ak (h1:JS X st u)(h2:JB X Mg v):JB X (st::Mg) (Qf u v):=⟨IJ h1.h h2.h⟩
theorem aE (h1:JS X st u):JB X [st] u:=⟨My h1.h⟩
theorem U5 (h1:JS X st u)(h2:JB X Mg v):JB X (st::Mg) (UX u v):=⟨M4 h1.h h2.h⟩
theorem qt (he:JE X e te)(hs:swapsWith e none pos.line X.env=pure false:=by rfl):JS X (.Expr e pos) (IK te):=⟨Mz he.h hs⟩
theorem aN (he:JE X e te):JS X (.Return (some e) pos) (Qg te):=⟨Qh he.h⟩
theorem gJ (hc:JT X c tA)(ha:JB X Mg u)(hb:JB X U3 v):JS X (.If c Mg U3 pos) (Qi tA u v):=⟨UB hc.h ha.h hb.h⟩
theorem sset (hN:X.N.Nodup)(hi:X.N[i]?=some x)(hx:Loc X.env.scope x)(he:JE X e te)(hs:swapsWith e (some (.Name x p)) pos.line X.env=pure false:=by rfl)(hf:X.fn x=true∨X.env.scope.names.lookup x=some .local:=by first | exact .inl rfl | exact .inr rfl | assumption):
   JS X (.Assign [.Name x p] e pos) (AJ te (cQ i)):=⟨Qo hN hi hx he.h hs hf⟩
theorem iS (he:JE X e te)(hg:JG X tg g)(hs:swapsWithSole [tg] e pos.line X.env=pure false:=by rfl)(hw:swappedStores [tg] e X.env=pure none:=by rfl)
   (h1:(assignEach [tg] X.env).map (·.2)=[assign tg X.env]:=by rfl):JS X (.Assign [tg] e pos) (AJ te g):=⟨Qn he.h hg.h hs hw h1⟩
theorem lT (hp:PassesOwn (model X.prog X.w) X.A X.env X.xe)(hc:X.calm=true)(hi:JI X tg iter wi)(hg:JG X tg g)(hb:JB X Mg u)
   (hs:∀x,foldedSetIterable iter X.env x=pure x:=by intro _;rfl):JS X (.For tg iter Mg [] pos) (oq wi g u):=⟨Qs hp hc hi.h hg.h hb.h hs⟩
theorem Jw (hp:PassesOwn (model X.prog X.w) X.A X.env X.xe)(hc:JT X c tA)(hb:JB X Mg u):JS X (.While c Mg [] pos) (Cw tA u):=⟨IP hp hc.h hb.h⟩
theorem EC (hN:X.N.Nodup)(hi:X.N[i]?=some x)(hx:Loc X.env.scope x)(hf:X.fn x=true∨X.env.scope.names.lookup x=some .local:=by first | exact .inl rfl | exact .inr rfl | assumption):JG X (.Name x pos) (cQ i):=⟨ze hN hi hx hf⟩
theorem U6 {i:Expr}{ti:TE}{t:MA}(ho:JE X o to)(hi:JE X i ti)(hs:Qj X t)
   (ha:∀v,assign (.Subscript o i pos) X.env v=(do
     let ov <- holding [v] (eval o X.env)
     let iv <- holding [v,ov] (eval i X.env)
     standAt pos
     holding [v,ov,iv] (setItem ov iv v)
     release [v,ov,iv] []):=by intro _;rfl):JG X (.Subscript o i pos) (Ql to ti t):=⟨Qm ho.h hi.h hs ha⟩
theorem dR:OL X [] wN:=⟨MB⟩
theorem ay {t:TG}{u:Ay}(h1:JG X e t)(h2:OL X es u)(hs:(assignEach (e::es) X.env).map (·.2)=assign e X.env::(assignEach es X.env).map (·.2):=by rfl):OL X (e::es) (iy t u):=⟨IM h1.h h2.h hs⟩
theorem ny (hg:Gl X "range")(hm:X.mg "range"=none)(ha:JA X [a] t)(hs:starEach [a] X.env=[(false,eval a X.env)]:=by rfl):JI X tg (.Call (.Name "range" p) [a] [] pos) (AL t):=⟨Gi hg hm ha.h hs⟩
theorem zw (hg:Gl X "range")(hm:X.mg "range"=none)(ha:JA X [a,b] t)(hs:starEach [a,b] X.env=[(false,eval a X.env),(false,eval b X.env)]:=by rfl)(IT:starEach [b] X.env=[(false,eval b X.env)]:=by rfl):
   JI X tg (.Call (.Name "range" p) [a,b] [] pos) (AM t):=⟨Gj hg hm ha.h hs IT⟩
theorem bU {l:Expr}(hl:JE X l te):JI X tg l (qh X.K te):=⟨MC hl.h⟩
theorem Jx:JO X none zj:=⟨MR⟩
theorem A5 (h:JE X e te):JO X (some e) (Jh te):=⟨MS h.h⟩
end
section
variable {K:Frag}
theorem bQ.okJ {st:Stmt}{N:List Str}{k:Nat}(F:bQ K x qual st f fd)(S:eg N ps (aL st))(len:∀vs H Q E,sp vs H Q E->vs.length=ps.length)
   (iP:∀(eV:Value) (A:Around) (outer:List Env) (s:Shared) (H:Hp) (vs:List V) (Q:VK) (E:XK),dB k (A.deeper (envOfC qual (aL st) s.heap.objs.size f eV))->sp vs H Q E->
     ∃t,JB (qj oH P w K mg base N qual (aL st) f eV A outer s H E).Mc (aj st) t/\t { nx:=λ_ H'=>Q .bO H',rt:=Q } (start N vs) H):dH P w K mg base oH (k + 1) f fd ps sp:=
 F.ok S len λeV A outer s H vs Q E hr h=>let ⟨t,a,b⟩:=iP eV A outer s H vs Q E hr h;⟨t,a.h,b⟩
end
mutual
def Is (K:Frag)(H:Hp):PyData->V->Prop
 | .none,v=>v=.bO
 | .bool b,v=>v=.bl b
 | .int i,v=>v=.int i
 | .str x,v=>v=.str x
 | .list ds,v=>∃a vs,v=.ref a/\aR K H a vs/\dU K H ds vs
 | .tuple ds,v=>∃a vs,v=.ref a/\wK K H a vs/\dU K H ds vs
 | .dict _,_=>False
def dU (K:Frag)(H:Hp):List PyData->List V->Prop
 | [],vs=>vs=[]
 | d::ds,vs=>∃v r,vs=v::r/\Is K H d v/\dU K H ds r
end
mutual
theorem Is.reads (I:Inv X pins σ H s):∀{d:PyData}{v:V}{u:Value},Is X.K H d v->RelV v u->∃as,Reads s.heap u d as
 | .none,v,u,h,r=>by unfold Is at h;subst h;cases r;exact⟨_,.none⟩
 | .bool b,v,u,h,r=>by unfold Is at h;subst h;cases r;exact⟨_,.bool b⟩
 | .int i,v,u,h,r=>by unfold Is at h;subst h;obtain⟨t,rfl⟩:=r;exact⟨_,.int i t⟩
 | .str x,v,u,h,r=>by unfold Is at h;subst h;obtain⟨t,rfl⟩:=r;exact⟨_,.str x t⟩
 | .list ds,v,u,h,r=>by
   unfold Is at h;obtain⟨a,vs,rfl,hs,ha⟩:=h;cases r;obtain⟨bu,rv,⟨o,n,e,hc,_,hd⟩,_⟩:=I.list hs;obtain⟨as,q⟩:=dU.reads I ha rv;exact⟨_,.list e hc hd (by simpa using q)⟩
 | .tuple ds,v,u,h,r=>by
   unfold Is at h;obtain⟨a,vs,rfl,hs,ha⟩:=h;cases r;obtain⟨bu,rv,⟨o,e,hc,n,hd⟩,_⟩:=I.tuple hs;obtain⟨as,q⟩:=dU.reads I ha rv;exact⟨_,.tuple e hc hd (by simpa using q)⟩
 | .dict _,v,u,h,r=>by unfold Is at h;exact h.elim
theorem dU.reads (I:Inv X pins σ H s):∀{ds:List PyData}{vs:List V}{us:List Value},dU X.K H ds vs->Vals vs us->∃as,ReadsAll s.heap us ds as
 | [],vs,us,h,r=>by unfold dU at h;subst h;cases r;exact⟨_,.nil⟩
 | d::ds,vs,us,h,r=>by
   unfold dU at h;obtain⟨v,rs,rfl,h1,h2⟩:=h;cases r with
   | cons r1 r2=>
     obtain⟨as,q1⟩:=Is.reads I h1 r1;obtain⟨bs,q2⟩:=dU.reads I h2 r2;exact⟨_,.cons q1 q2⟩
end
def U7 (K:Frag)(neg:Bool):R2:=λx y H Q=>∃d e,Is K H d x/\Is K H e y/\SeqAt.shaped d=true/\SeqAt.shaped e=true/\Q (.bl (if neg=true then !PyData.eqv d e else PyData.eqv d e)) H
theorem Jy (hu:X.A.units + 64 < cLine):iM X (compareOp .Eq) (U7 X.K false):=by
 intro pins s σ H x y v u Q I rx ry h;obtain⟨d,e,hd,he,sd,se,q⟩:=h;obtain⟨as,ra⟩:=hd.reads I rx;obtain⟨bs,rb⟩:=he.reads I ry;exact SeqAt.compareEq_shaped ra rb sd se hu ⟨.bl _,H,I,rfl,q⟩
mutual
theorem Is.same {K:Frag}{H H':Hp}(h:qo H H'):∀{d:PyData}{v:V},Is K H d v->Is K H' d v
 | .none,v,q=>by unfold Is at q ⊢;exact q
 | .bool b,v,q=>by unfold Is at q ⊢;exact q
 | .int i,v,q=>by unfold Is at q ⊢;exact q
 | .str x,v,q=>by unfold Is at q ⊢;exact q
 | .list ds,v,q=>by
   unfold Is at q ⊢;obtain⟨a,vs,e,hs,ha⟩:=q;exact⟨a,vs,e,h.seq hs,dU.same h ha⟩
 | .tuple ds,v,q=>by
   unfold Is at q ⊢;obtain⟨a,vs,e,hs,ha⟩:=q;refine⟨a,vs,e,?_,dU.same h ha⟩;rcases hs with (hs | ⟨o,hs⟩) | hs
   . exact .inl (.inl (h _ _ hs))
   . exact .inl (.inr ⟨o,h _ _ hs⟩)
   . exact .inr hs
 | .dict _,v,q=>by unfold Is at q;exact q.elim
theorem dU.same {K:Frag}{H H':Hp}(h:qo H H'):∀{ds:List PyData}{vs:List V},dU K H ds vs->dU K H' ds vs
 | [],vs,q=>by unfold dU at q ⊢;exact q
 | d::ds,vs,q=>by
   unfold dU at q ⊢;obtain⟨v,r,e,h1,h2⟩:=q;exact⟨v,r,e,Is.same h h1,dU.same h h2⟩
end
theorem Jz:∀{u:Value}{x:V},AI u=some x->RelV x u:=by
 intro u x h;cases u <;> first | (cases h;first | rfl | exact⟨_,rfl⟩) | cases h
theorem JC:∀{us:List Value}{xs:List V},us.mapM AI=some xs->Vals xs us:=by
 intro us;induction us with
 | nil=>intro xs h;simp at h;subst h;exact .nil
 | cons u us ih=>
   intro xs h;rw[List.mapM_cons]at h;cases e1:AI u with
   | none=>rw[e1]at h;simp at h
   | some x=>
     cases e2:us.mapM AI with
     | none=>rw[e1,e2]at h;simp at h
     | some ys=>
       rw[e1,e2]at h;simp at h;subst h;exact .cons (Jz e1) (ih e2)
def jI (K:Frag)(a:Addr):Option (List V):=match K.lookup a with
 | some ⟨.type n,_,.seq bu _,_⟩=>if n="tuple" then (if bu.size<=sizeLine then bu.toList.mapM AI else none) else none
 | _=>none
theorem ED {K:Frag}{a:Addr}(h:jI K a=some xs):wK K H a xs:=by
 unfold jI at h;split at h
 . next n dd bu k sl e=>
   by_cases h1:n="tuple"
   . rw[Fh h1]at h
     by_cases h2:bu.size<=sizeLine
     . rw[Fh h2]at h;subst h1;exact .inr ⟨_,bu,k,e,rfl,rfl,h2,JC h⟩
     . rw[Ee h2]at h;cases h
   . rw[Ee h1]at h;cases h
 . cases h
def tupQ (K:Frag)(H:Hp)(a:Addr):Option (List V):=match H a with
 | some (.tup xs)=>some xs
 | some _=>none
 | none=>jI K a
def jZ (K:Frag)(H:Hp)(a:Addr):Option (List V):=match H a with
 | some (.lst xs)=>some xs
 | some (.tup xs)=>some xs
 | some (.sP _ (.lst xs))=>some xs
 | some _=>none
 | none=>jI K a
section
variable {K:Frag}{a b:Addr}
theorem nB (h:tupQ K H a=some xs):wK K H a xs:=by
 unfold tupQ at h;split at h
 . next e=>cases h;exact .inl (.inl e)
 . cases h
 . exact ED h
theorem qu (h:jZ K H a=some xs):aR K H a xs∨wK K H a xs:=by
 unfold jZ at h;split at h
 . next e=>cases h;exact .inl (.inl (.inl e))
 . next e=>cases h;exact .inr (.inl (.inl e))
 . next e=>cases h;exact .inl (.inl (.inr ⟨_,e⟩))
 . cases h
 . exact .inr (ED h)
theorem aQ (h:tupQ K H a=some xs):jZ K H a=some xs:=by
 unfold tupQ at h;unfold jZ;split at h
 . next e=>rw[e];exact h
 . cases h
 . next e=>rw[e];exact h
theorem aI (h:H a=some (.lst xs)):jZ K H a=some xs:=by unfold jZ;rw[h]
theorem JH (h:H a=some (.tup xs)):jZ K H a=some xs:=by unfold jZ;rw[h]
theorem A6 (h:H a=some (.tup xs)):tupQ K H a=some xs:=by unfold tupQ;rw[h]
theorem GP:jZ K (upd H a (.lst xs)) a=some xs:=aI af
theorem GQ:jZ K (upd H a (.tup xs)) a=some xs:=JH af
theorem aK:tupQ K (upd H a (.tup xs)) a=some xs:=A6 af
theorem qv (h:b≠a):tupQ K (upd H a o) b=tupQ K H b:=by unfold tupQ;rw[au h]
structure Ext (K:Frag)(H H':Hp):Prop where
 same:qo H H'
 mod:∀a xs,H a=none->jI K a=some xs->H' a=none
theorem Ext.refl:Ext K H H:=⟨qo.refl H,λ_ _ h _=>h⟩
theorem Ext.trans (x:Ext K H H1)(y:Ext K H1 H2):Ext K H H2:=⟨x.same.trans y.same,λa xs h k=>y.mod a xs (x.mod a xs h k) k⟩
theorem Ext.tup (x:Ext K H H')(h:tupQ K H a=some xs):tupQ K H' a=some xs:=by
 unfold tupQ at h ⊢;split at h
 . next e=>rw[x.same _ _ e];exact h
 . cases h
 . next e=>rw[x.mod a xs e h];exact h
end
def M6 (K:Frag):R2:=λx y H Q=>∃p i xs v,x=.ref p/\y=.int i/\jZ K H p=some xs/\kZ xs i=some v/\Q v H
theorem jv:OG X (M6 X.K):=by
 intro value slice pins s σ H x y v u Q I rx ry h hs;obtain⟨p,i,xs,z,rfl,rfl,hq,he,q⟩:=h;rcases qu (K:=X.K) hq with h1 | h1
 . exact Ew value slice pins s σ H _ _ v u Q I rx ry ⟨p,xs,i,z,rfl,rfl,h1,he,q⟩ hs
 . exact QG value slice pins s σ H _ _ v u Q I rx ry ⟨p,xs,i,z,rfl,rfl,h1,he,q⟩ hs
theorem yj:ef X (.builtin "len") (λxs H Q=>∃p ys,xs=[.ref p]/\jZ X.K H p=some ys/\Q (.int ys.length) H):=by
 intro pins s σ H xs us Q I r h;obtain⟨p,ys,rfl,hq,q⟩:=h;exact ql pins s σ H _ us Q I r ⟨p,ys,rfl,qu hq,q⟩
def new (K:Frag)(H:Hp)(p:Addr):Prop:=H p=none/\jI K p=none
theorem nF {K:Frag}{a:Addr}:new K (upd H a o) p↔p≠a/\new K H p:=by
 unfold new;rw[A3,and_assoc]
theorem yl {K:Frag}{a:Addr}(h:K.lookup a=none):jI K a=none:=by unfold jI;rw[h]
section
variable {t:TA}
theorem Inv.new (I:Inv X pins σ H s):L2.new X.K H s.heap.objs.size:=by
 refine⟨I.c7.fresh (ar _),yl ?_⟩;cases e:X.K.lookup s.heap.objs.size with
 | none=>rfl
 | some o=>exact absurd (ag (I.qd _ o e)) (fw _)
def EE (K:Frag)(t:TA):TE:=λσ H Q=>t σ H λxs H1=>xs.length<=sizeLine/\∀p,L2.new K H1 p->Q (.ref p) (upd H1 p (.tup xs))
def EF (K:Frag)(t:TA):TE:=λσ H Q=>t σ H λxs H1=>xs.length<=sizeLine/\∀p,L2.new K H1 p->Q (.ref p) (upd H1 p (.lst xs))
theorem OM {k}(h:JA X es t):JE X (.Tuple es k pos) (EE X.K t):=⟨by
 intro pins s σ H Q I hq;refine wpAny_Tuple_spliced (bI (h.h pos pins s σ H _ I hq) λus s1 ⟨xs,H1,I1,r,z,q⟩=>⟨by rw[<- r.length];exact z,?_⟩);refine⟨.ref s1.heap.objs.size,upd H1 s1.heap.objs.size (.tup xs),I1.laid (t':=s1.toks) (λb u e=>ae _ e) (ar _) ?_,rfl,q _ I1.new⟩;exact⟨z,us,r,⟨_,cb _ rfl,rfl,_,rfl⟩⟩⟩
theorem ON (h:JA X es t):JE X (.List es pos) (EF X.K t):=⟨by
 intro pins s σ H Q I hq;refine wpAny_List_spliced (bI (h.h pos pins s σ H _ I hq) λus s1 ⟨xs,H1,I1,r,z,q⟩=>⟨by rw[<- r.length];exact z,?_⟩);refine⟨.ref s1.heap.objs.size,upd H1 s1.heap.objs.size (.lst xs),I1.laid (t':=s1.toks) (λb u e=>ae _ e) (ar _) ?_,rfl,q _ I1.new⟩;exact⟨z,us,0,r,cb _ rfl⟩⟩
theorem zx {st:Stmt}:JS X st Cu:=⟨IL⟩
def JJ (K:Frag):R2:=λx y H Q=>∃l b xs zs,x=.ref l/\y=.ref b/\H l=some (.lst xs)/\H b=some (.lst zs)/\xs.length + zs.length<=sizeLine/\∀p,L2.new K H p->Q (.ref p) (upd H p (.lst (xs++zs)))
theorem dg:iM X (binaryOp .Add) (JJ X.K):=by
 intro pins s σ H x y v u Q I rx ry h;obtain⟨l,b,xs,zs,rfl,rfl,hH,hB,hz,q⟩:=h;cases rx;cases ry;obtain⟨z,bu,n,r,hl,e⟩:=I.MT hH;obtain⟨z2,its2,n2,r2,oM,e2⟩:=I.MT hB;refine PySem.P.add_list e e2 ?_ (by rw[cp,cp];omega);have ea:bu.toArray++its2.toArray=(bu++its2).toArray:=RR
 rw[ea];exact⟨.ref _,_,I.QN (t':=s.toks) (r.append r2) (by rw[ax];omega),rfl,q _ I.new⟩
end
structure Kp (K:Frag)(p:Addr)(H H':Hp):Prop where
 keep:∀q o,H q=some o->q≠p->H' q=some o
 mod:∀a xs,H a=none->jI K a=some xs->H' a=none
section
variable {K:Frag}{a:Addr}{ys:List V}
theorem Kp.refl:Kp K p H H:=⟨λ_ _ h _=>h,λ_ _ h _=>h⟩
theorem Kp.trans (x:Kp K p H H1)(y:Kp K p H1 H2):Kp K p H H2:=⟨λq o h n=>y.keep q o (x.keep q o h n) n,λa xs h k=>y.mod a xs (x.mod a xs h k) k⟩
theorem Kp.upd (h:H p=some (.lst xs)):Kp K p H (upd H p o):=⟨λq u e n=>by rw[au n];exact e,λb ys e _=>by rw[au (λz=>by rw[z,h]at e;cases e)];exact e⟩
theorem Kp.new (h:L2.new K H q):Kp K p H (L2.upd H q o):=⟨λr u e _=>by rw[au (aH e h.1)];exact e,λb ys e k=>by rw[au (λz=>by rw[z,h.2]at k;cases k)];exact e⟩
theorem Kp.tup (x:Kp K p H H')(hp:H p=some (.lst ys))(h:tupQ K H a=some xs):tupQ K H' a=some xs:=by
 unfold tupQ at h ⊢;split at h
 . next e=>rw[x.keep _ _ e (OA e hp (by intro z;cases z))];exact h
 . cases h
 . next e=>rw[x.mod a xs e h];exact h
theorem Ext.new (h:L2.new K H q):Ext K H (L2.upd H q o):=⟨λb u e=>by rw[au (aH e h.1)];exact e,λb ys e k=>by rw[au (λz=>by rw[z,h.2]at k;cases k)];exact e⟩
theorem Kp.ext (x:Kp K p (L2.upd H p o) H')(h:L2.new K H p):Ext K H H':=by
 refine⟨λb u e=>?_,λb ys e k=>?_⟩
 . have n:b≠p:=aH e h.1;exact x.keep b u (by rw[au n];exact e) n
 . exact x.mod b ys (by rw[au (λz=>by rw[z,h.2]at k;cases k)];exact e) k
theorem Ext.kp (x:Ext K H H'):Kp K p H H':=⟨λq o e _=>x.same q o e,x.mod⟩
end
section
variable {K:Frag}{a:Addr}
end
def U8 (K:Frag)(H:Hp)(x:V)(t:Value):Prop:=oE K H x t∨∃a xs,x=.ref a/\tupQ K H a=some xs/\t=.type "tuple"
theorem U8.tup {K:Frag}{a:Addr}(h:tupQ K H a=some xs):U8 K H (.ref a) (.type "tuple"):=.inr ⟨a,xs,rfl,h,rfl⟩
theorem zy:ef X (.builtin "isinstance") (λxs H Q=>∃x n t b,xs=[x,.ty n]/\U8 X.K H x t/\kitOne X.K t (.type n)=some b/\Q (.bl b) H):=by
 intro pins s σ H xs us Q I r h;obtain⟨x,n,t,b,rfl,ty,e,q⟩:=h;obtain⟨u,w',rfl,ru,rw'⟩:=vals2 r;cases rw';rcases ty with ty | ⟨a,ys,rfl,hq,rfl⟩
 . exact xW I ru ty e λtk=>⟨.bl b,H,I.tok tk,rfl,q⟩
 . cases(show u=Value.ref a from ru);obtain⟨bu,_,⟨o,h1,h2,_⟩,_⟩:=I.tuple (nB hq);exact il PySem.W.kitx_tuple I.qd ⟨o,h1,h2⟩ e (λz=>nomatch z) λtk=>⟨.bl b,H,I.tok tk,rfl,q⟩
def Q7 (K:Frag)(neg:Bool):R2:=λx y H Q=>∃p xs,y=.ref p/\jZ K H p=some xs/\kU x=true/\xs.all kU=true/\Q (.bl (if neg=true then !Cf x xs else Cf x xs)) H
theorem C2:iM X (compareOp .In) (Q7 X.K false):=by
 intro pins s σ H x y v u Q I rx ry h;obtain⟨p,xs,rfl,hq,fx,fs,q⟩:=h;exact Gx pins s σ H x _ v u Q I rx ry ⟨p,xs,rfl,qu hq,fx,fs,q⟩
theorem ym:iM X (compareOp .NotIn) (Q7 X.K true):=by
 intro pins s σ H x y v u Q I rx ry h;obtain⟨p,xs,rfl,hq,fx,fs,q⟩:=h;exact zl pins s σ H x _ v u Q I rx ry ⟨p,xs,rfl,qu hq,fx,fs,q⟩
def iE (K:Frag)(H:Hp):Prop:=∀b xs,jI K b=some xs->H b=none
theorem yo {K:Frag}{a:Addr}(h:jI K a=some xs):∃o,K.lookup a=some o:=by
 cases e:K.lookup a with
 | none=>rw[yl e]at h;cases h
 | some o=>exact⟨o,rfl⟩
theorem dH.mod {K:Frag}{k:Nat}(len:∀vs H Q E,sp vs H Q E->vs.length=ps.length)
   (F:dH P w K mg base CX k f fd ps (λvs H Q E=>sp vs H Q E/\iE K H)):dH P w K mg base CX k f fd ps sp:=
 ⟨len,λA outer s H args us vs Q E hr e0 hb r h=>F.run A outer s H args us vs Q E hr e0 hb r ⟨h,λb xs hk=>by
   obtain⟨o,e⟩:=yo hk;exact(e0.bs b o (e0.mod.Ms b o e)).2⟩⟩
section
variable {K:Frag}
theorem bQ.okM {st:Stmt}{N:List Str}{k:Nat}(F:bQ K x qual st f fd)(S:eg N ps (aL st))(len:∀vs H Q E,sp vs H Q E->vs.length=ps.length)
   (iP:∀(eV:Value) (A:Around) (outer:List Env) (s:Shared) (H:Hp) (vs:List V) (Q:VK) (E:XK),dB k (A.deeper (envOfC qual (aL st) s.heap.objs.size f eV))->iE K H->sp vs H Q E->
     ∃t,JB (qj oH P w K mg base N qual (aL st) f eV A outer s H E).Mc (aj st) t/\t { nx:=λ_ H'=>Q .bO H',rt:=Q } (start N vs) H):dH P w K mg base oH (k + 1) f fd ps sp:=
 dH.mod len (F.okJ S (λvs H Q E h=>len vs H Q E h.1) λeV A outer s H vs Q E hr h=>iP eV A outer s H vs Q E hr h.2 h.1)
end
theorem iE.tup {K:Frag}{a:Addr}(m:iE K H)(h:jI K a=some xs):tupQ K H a=some xs:=by
 unfold tupQ;rw[m a xs h];exact h
theorem iE.ext {K:Frag}(m:iE K H)(x:Ext K H H'):iE K H':=λb xs h=>x.mod b xs (m b xs h) h
def U9 (lo st:Int)(n:Nat):It:=⟨λi _=>i < n,λi H x H'=>H'=H/\x=.int (lo + i * st),λi _=>n<=i⟩
def Va (ta:TA):TI:=λσ H R=>ta σ H λvs H1=>∃(i j c:Int) (n:Nat),vs=[.int i,.int j,.int c]/\c≠0/\c.natAbs < 1073741824/\Builtin.Range.small i j c=true/\Builtin.Range.rangeSize i j c=(n:Int)/\R (U9 i c n) H1
section
variable {K:Frag}{D:Ends}{lo stp:Int}
theorem GR:oq (Va ta) g tb D σ H=ta σ H (λvs H1=>∃(i j c:Int) (n:Nat),vs=[.int i,.int j,.int c]/\c≠0/\c.natAbs < 1073741824/\Builtin.Range.small i j c=true/\Builtin.Range.rangeSize i j c=(n:Int)/\Loop (U9 i c n) g tb D σ H1):=rfl
end
def Q8 (K:Frag):V->Option Int->Option Int->Hp->VK->Prop:=λx lo hi H Q=>∃a xs,x=.ref a/\aR K H a xs/\∀p,L2.new K H p->Q (.ref p) (upd H p (.lst (rN xs lo hi)))
theorem qw:W8 X (Q8 X.K):=by
 intro pins s σ H x v vl vu lo hi sl Q I rx hs pl pu h;obtain⟨a,xs,rfl,hx,q⟩:=h;cases rx;obtain⟨bu,r,ht,hz⟩:=I.list hx;have hlen:=r.length;refine⟨"list",_,slot_list_getitem.lookup,ht.isList.typeIs,?_⟩;refine OK ht.isList hs pl pu .none RR ?_ (by rw[cp] <;> omega);rw[wU,<- hlen];refine⟨.ref s.heap.objs.size,_,I.laid (t':=s.toks) (o:=.lst (rN xs lo hi)) (λb ob q=>ae _ q) (ar _) ?_,rfl,q _ I.new⟩;exact⟨cn (sU xs lo hi) hz,_,0,(r.drop (HT.AR xs.length 0 lo)).take (HT.AR xs.length xs.length hi - HT.AR xs.length 0 lo),cb _ rfl⟩
def EG (K:Frag)(n:Nat)(t:Ay):TG:=λv σ H Q=>∃a xs,v=.ref a/\tupQ K H a=some xs/\xs.length=n/\t xs σ H Q
theorem dD {k:Nat}{t:Ay}(hc:X.calm=true)(h:OL X es t)(hn:(assignEach es X.env).length=n:=by rfl)(Cv:(assignEach es X.env).findIdx? (·.1)=none:=by rfl):JG X (.Tuple es k pos) (EG X.K n t):=
 ⟨λpins s σ H v u Q I r ⟨a,xs,e,h1,h2,h3⟩=>Qk hc h.h hn Cv pins s σ H v u Q I r ⟨a,xs,e,nB h1,h2,h3⟩⟩
theorem bq {c:Prop}[Decidable c]{a b:Prop}(h:c)(x:a):if c then a else b:=by rw[Fh h];exact x
theorem aJ {c:Prop}[Decidable c]{a b:Prop}(h:¬ c)(x:b):if c then a else b:=by rw[Ee h];exact x
theorem M7 {K:Frag}{a:Addr}{d:Option Addr}{bu:Array Value}{k:Nat}(h:K.lookup a=some ⟨.type "tuple",d,.seq bu k,sl⟩)(hz:bu.size<=1000)(e:bu.toList.mapM AI=some xs):jI K a=some xs:=by
 unfold jI;rw[h];simp only[Md];rw[Fh (Jt hz)];exact e
theorem rS (xs:List V)(k:Nat):rN xs (some (k:Int)) none=xs.drop k:=by
 unfold rN;rw[HT.Jg,HT.MQ]
 by_cases h:k<=xs.length
 . rw[Nat.min_eq_left h,tq (by rw[i5];exact ar _)]
 . rw[Nat.min_eq_right QR,List.drop_of_length_le (ar _),List.drop_of_length_le QR];simp
theorem Ext.at {K:Frag}{a:Addr}(x:Ext K H H')(h:H a=some o):H' a=some o:=x.same _ _ h
structure oO (K:Frag)(p q:Addr)(H H':Hp):Prop where
 keep:∀r o,H r=some o->r≠p->r≠q->H' r=some o
 mod:∀a xs,H a=none->jI K a=some xs->H' a=none
section
variable {K:Frag}{o':HO}
theorem Kp.l (x:Kp K p H H'):oO K p q H H':=⟨λr o h n _=>x.keep r o h n,x.mod⟩
theorem Kp.r (x:Kp K q H H'):oO K p q H H':=⟨λr o h _ n=>x.keep r o h n,x.mod⟩
theorem Ext.OO (x:Ext K H H'):oO K p q H H':=⟨λr o h _ _=>x.same r o h,x.mod⟩
theorem oO.trans (x:oO K p q H H1)(y:oO K p q H1 H2):oO K p q H H2:=⟨λr o h n m=>y.keep r o (x.keep r o h n m) n m,λa xs h k=>y.mod a xs (x.mod a xs h k) k⟩
theorem oO.ext (x:oO K p q (L2.upd (L2.upd H p o) q o') H')(hp:L2.new K H p)(hq:L2.new K (L2.upd H p o) q):Ext K H H':=by
 have y:Ext K H (L2.upd (L2.upd H p o) q o'):=(Ext.new hp).trans (Ext.new hq);refine⟨λb u e=>?_,λb ys e k=>x.mod b ys (y.mod b ys e k) k⟩;have n:b≠p:=aH e hp.1;have m:b≠q:=aH ((Ext.new hp).at e) hq.1;exact x.keep b u (y.at e) n m
end
def gX (env:Env):List (Str×NameKind)->List (Str×Addr)->List (Str×Addr)
 | [],cs=>cs
 | (n,k)::r,cs=>gX env r (if (k==NameKind.free)=true then (match env.cells.lookup n with | some a=>(n,a)::cs | none=>cs) else cs)
theorem gK (h:∀x∈scope.names,x.2=.free->∃c,env.cells.lookup x.1=some c):closureFor scope env=pure (gX env scope.names []):=by
 unfold closureFor;generalize scope.names=names at h ⊢;generalize([]:List (Str×Addr))=cs;induction names generalizing cs with
 | nil=>rfl
 | cons x r ih=>
   obtain⟨n,k⟩:=x;have ih':=λcs=>ih (cs:=cs) λx hx=>h x (cx _ hx);simp only[List.forIn_cons];cases hk:(k==NameKind.free) with
   | false=>
     simp only[gX,hk];exact ih' cs
   | true=>
     obtain⟨c,hc⟩:=h (n,k) (dq) (by simpa using hk);simp only[gX,hk,hc,cellOf];exact ih' _
theorem yq {env:Env}:∀{names:List (Str×NameKind)}{cs:List (Str×Addr)}{n:Str}{c:Addr},(n,c)∈gX env names cs->(n,c)∈cs∨env.cells.lookup n=some c
 | [],cs,n,c,h=>.inl h
 | (m,k)::r,cs,n,c,h=>by
   rw[gX]at h;rcases yq h with h | h
   . split at h
     . split at h
       . next a e=>
         rcases List.mem_cons.mp h with z | z
         . cases z;exact .inr e
         . exact .inl z
       . exact .inl h
     . exact .inl h
   . exact .inr h
theorem yr {env:Env}:∀{names:List (Str×NameKind)}{cs:List (Str×Addr)}{p:Str×Addr},p∈cs->p∈gX env names cs
 | [],cs,p,h=>h
 | (m,k)::r,cs,p,h=>by
   rw[gX];refine yr ?_;split
   . split
     . exact cx _ h
     . exact h
   . exact h
theorem yt {env:Env}:∀{names:List (Str×NameKind)}{cs:List (Str×Addr)}{n:Str}{c:Addr},(n,NameKind.free)∈names->env.cells.lookup n=some c->(n,c)∈gX env names cs
 | (m,k)::r,cs,n,c,h,e=>by
   rw[gX];rcases List.mem_cons.mp h with z | z
   . cases z;rw[Fh RF,e];exact yr dq
   . exact yt z e
theorem lookup_mem {α:Type}:∀{l:List (Str×α)}{n:Str}{c:α},l.lookup n=some c->(n,c)∈l
 | (m,d)::r,n,c,h=>by
   rw[List.lookup_cons]at h;cases e:n==m with
   | true=>
     rw[e]at h;cases h;rw[eq_of_beq e];exact dq
   | false=>
     rw[e]at h;exact cx _ (lookup_mem h)
theorem mem_lookup {α:Type}:∀{l:List (Str×α)}{n:Str}{c:α},(n,c)∈l->∃d,l.lookup n=some d
 | (m,d)::r,n,c,h=>by
   rw[List.lookup_cons];cases e:n==m with
   | true=>exact⟨d,rfl⟩
   | false=>
     rcases List.mem_cons.mp h with z | z
     . cases z;rw[Fn]at e;cases e
     . exact mem_lookup z
theorem fj {names:List (Str×NameKind)}{n:Str}{c:Addr}(h:(gX env names []).lookup n=some c):env.cells.lookup n=some c:=by
 rcases yq (lookup_mem h)with z | z
 . cases z
 . exact z
theorem A7 {names:List (Str×NameKind)}{n:Str}{c:Addr}(h:(n,NameKind.free)∈names)(e:env.cells.lookup n=some c):(gX env names []).lookup n=some c:=by
 obtain⟨d,hd⟩:=mem_lookup (yt (cs:=[]) h e);rw[hd];exact(fj hd).symm.trans e ▸ rfl
theorem qx {env:Env}:∀{names:List (Str×NameKind)}{x:Str},names.lookup x=some .free->
   (names.map λ(n,k)=>if (k==NameKind.free&&env.scope.kind==.function&&env.kindOf n==some .cell) then (n,NameKind.cell) else (n,k)).lookup x=some .cell∨
   (names.map λ(n,k)=>if (k==NameKind.free&&env.scope.kind==.function&&env.kindOf n==some .cell) then (n,NameKind.cell) else (n,k)).lookup x=some .free
 | [],_,h=>by simp at h
 | (n,k)::r,x,h=>by
   have ih:=@qx env r x;show List.lookup x ((if (k==NameKind.free&&env.scope.kind==.function&&env.kindOf n==some .cell)=true then (n,NameKind.cell) else (n,k))::_)=_∨List.lookup x ((if (k==NameKind.free&&env.scope.kind==.function&&env.kindOf n==some .cell)=true then (n,NameKind.cell) else (n,k))::_)=_;cases hx:x==n with
   | true=>
     simp only[List.lookup_cons,hx]at h;cases h;split
     . simp[List.lookup_cons,hx]
     . simp[List.lookup_cons,hx]
   | false=>
     simp only[List.lookup_cons,hx]at h;split
     . simp only[List.lookup_cons,hx];exact ih h
     . simp only[List.lookup_cons,hx];exact ih h
theorem lV {env:Env}:∀{names:List (Str×NameKind)}{x:Str}{kk:NameKind},(∀y∈names,y.2≠.cell)->
   (names.map λ(n,k)=>if (k==NameKind.free&&env.scope.kind==.function&&env.kindOf n==some .cell) then (n,NameKind.cell) else (n,k)).lookup x=some kk->kk=.cell∨kk=.free->(x,NameKind.free)∈names
 | [],_,_,_,h,_=>by simp at h
 | (n,k)::r,x,kk,hc,h,hk=>by
   have ih:=@lV env r x kk λy hy=>hc y (cx _ hy);change List.lookup x ((if (k==NameKind.free&&env.scope.kind==.function&&env.kindOf n==some .cell)=true then (n,NameKind.cell) else (n,k))::_)=_ at h;cases hx:x==n with
   | true=>
     have e:=eq_of_beq hx;subst e;split at h
     . next q=>
       simp only[cm,Pt]at q;rw[q.1.1];exact dq
     . simp only[List.lookup_cons,hx]at h;cases h;rcases hk with z | z
       . exact absurd z (hc _ dq)
       . rw[z];exact dq
   | false=>
     refine cx _ (ih ?_ hk);split at h
     . simp only[List.lookup_cons,hx]at h;exact h
     . simp only[List.lookup_cons,hx]at h;exact h
def Cx.comp (X:Cx)(N:List Str)(scope:Scope)(C:Addr)(s:Shared)(H:Hp)(fp:List Addr):Cx:=
 { X with N:=N,s₀:=s,H₀:=H,env:=compEnvC scope (gX X.env scope.names []) C X.env,outer:=X.stack,ex:=fp,fn:=λ_=>false,pn:=[],xe:=λ_ _=>False }
def pick (σ:St)(src:List (Option Nat)):St:=src.map λo=>match o with | none=>none | some j=>(σ[j]?).join
def uR (NX:List Str)(Xc sc:Scope)(N:List Str)(src:List (Option Nat)):Bool:=
 sc.names.all (λx=>x.2 !=.cell)&&sc.names.all (λx=>x.2 !=.local||sc.names.lookup x.1==some .local)&&
 sc.names.all (λx=>x.2 !=.free||(Xc.names.lookup x.1==some .cell||Xc.names.lookup x.1==some .free))&&N.length==src.length&&
 (N.zip src).all (λp=>match p.2 with | none=>true | some j=>NX[j]?==some p.1&&(Xc.names.lookup p.1==some .cell||Xc.names.lookup p.1==some .free)&&sc.names.lookup p.1==some .free)
structure zz (X:Cx)(sc:Scope)(N:List Str)(src:List (Option Nat)):Prop where
 kind:sc.kind=.function
 ok:uR X.N X.env.scope sc N src=true
section
variable {N:List Str}
theorem zz.cell (c:zz X sc N src):∀y∈sc.names,y.2≠.cell:=λy hy=>by
 have h:=c.ok;simp only[uR,cm,eI]at h;simpa using h.1.1.1.1 y hy
theorem zz.names (c:zz X sc N src):∀y∈sc.names,y.2=.local->sc.names.lookup y.1=some .local:=λy hy e=>by
 have h:=c.ok;simp only[uR,cm,eI]at h;have q:=h.1.1.1.2 y hy;rw[e]at q;simpa using q
theorem zz.free (c:zz X sc N src)(hx:(x,NameKind.free)∈sc.names):X.env.kindOf x=some .cell∨X.env.kindOf x=some .free:=by
 have h:=c.ok;simp only[uR,cm,eI]at h;have q:=h.1.1.2 _ hx;simpa[Env.kindOf] using q
theorem zz.len (c:zz X sc N src):N.length=src.length:=by
 have h:=c.ok;simp only[uR,cm,eI]at h;simpa using h.1.2
theorem zz.at_ (c:zz X sc N src)(h1:N[i]?=some x)(h2:src[i]?=some (some j)):X.N[j]?=some x/\(X.env.kindOf x=some .cell∨X.env.kindOf x=some .free)/\sc.names.lookup x=some .free:=by
 have h:=c.ok;simp only[uR,cm,eI]at h;have m:(x,some j)∈N.zip src:=by
   refine ba (i:=i) ?_;rw[de];exact⟨h1,h2⟩
 have q:=h.2 _ m;simp only[cm,Bool.or_eq_true,Pt]at q;exact⟨q.1.1,q.1.2,q.2⟩
theorem GS {v:V}(h:(pick σ src)[i]?=some (some v)):∃j,src[i]?=some (some j)/\σ[j]?=some (some v):=by
 unfold pick at h;rw[bb]at h;cases e:src[i]? with
 | none=>rw[e]at h;cases h
 | some o=>
   rw[e]at h;cases o with
   | none=>simp at h
   | some j=>
     refine⟨j,rfl,?_⟩;simp only[Option.map_some,Option.some.injEq]at h;cases e2:σ[j]? with
     | none=>rw[e2]at h;cases h
     | some w=>
       rw[e2]at h;simp only[Option.join]at h;exact congrArg some h
theorem Cx.Ok.comp (I:Inv X pins σ H s)(c:zz X sc N src)(hf:∀b∈fp,lN X pins H b)(ho:∀b∈fp,∃o,s.heap.get? b=some o)(hC:s.heap.objs.size<=C):(X.comp N sc C s H fp).Ok where
 mod:=I.ok.mod
 kind:=c.kind
 glob:=I.ok.glob
 blt:=I.ok.blt
 above:=hC
 inj:=λx y a h h'=>I.ok.inj x y a (fj h) (fj h')
 has:=λx h=>by
   have m:(x,NameKind.free)∈sc.names:=by
     rcases h with h | h
     . exact lV c.cell h (.inl rfl)
     . exact lV c.cell h (.inr rfl)
   obtain⟨a,ha⟩:=I.ok.has x (c.free m);exact⟨a,A7 m ha⟩
 SK:=λ_ _ h=>nomatch h
 hd:=I.ok.hd
 frames:=I.ok.frames
 Uu:=.inl rfl
 Yi:=λb hb=>by
   obtain⟨o,e⟩:=ho b hb;exact⟨cv (bp (ag e) hC),λx a h=>(hf b hb).2.2.2.2.1 x a (fj h)⟩
 bs:=I.bs
 Ma:=cn I.ok.Ma I.sz
 Ge:=λb o e hb=>by
   rcases(hf b hb).2.2.2.1 with z | z
   . exact I.ok.Ge b o e z
   . exact absurd (bp (ag e) (cn I.ok.Ma z)) (fw _)
 IF:=λb hb z=>by
   rcases List.mem_cons.mp (I.uI b z)with q | q
   . exact(hf b hb).2.1 q
   . exact(hf b hb).2.2.1 q
 rJ:=I.stack
 OB:=I.Eg
theorem Inv.block {h1:Heap}(I:Inv X pins σ H s)(c:zz X sc N src)(hf:∀b∈fp,lN X pins H b)(ho:∀b∈fp,∃o,s.heap.get? b=some o)
   (hD:s.heap.objs.size<=D) (hC:s.heap.objs.size<=C) (Q9:D≠C) (k:∀b u,s.heap.get? b=some u->h1.get? b=some u) (hn:h1.Ns C λ_=>none) (new:cO X.prog X.w (upd H D (.lst [])) h1 D (.lst [])):
   Inv (X.comp N sc C s H fp) [] (pick σ src) (upd H D (.lst [])) { s with heap:=h1,toks:=t' } where
 ok:=Cx.Ok.comp I c hf ho hC
 os:=rfl
 bare:=I.bare
 base:=Un.laid k hD (I.c7.fresh hD)
 loc:=by
   refine⟨_,hn,λi x v e1 e2 e3=>?_⟩;obtain⟨j,ej,es⟩:=GS e2;obtain⟨n1,n2,n3⟩:=c.at_ e1 ej;obtain⟨m,_,hl⟩:=I.loc;have vis:SJ X.env.scope x:=n2.elim (λz=>.inr (.inl z)) λz=>.inr (.inr z);obtain⟨u,r,q⟩:=hl j x v n1 es vis;refine⟨u,r,.inr ⟨qx n3,?_⟩⟩;rcases q with ⟨z,_⟩ | ⟨_,a,ha,z⟩
   . rcases n2 with n2 | n2 <;> rw[n2]at z <;> cases z
   . obtain⟨o,e,d⟩:=z;exact⟨a,A7 (lookup_mem n3) ha,o,k _ _ e,d⟩
 cell:=λx a e=>by
   obtain⟨v,o,e,d⟩:=I.cell x a (fj e);exact⟨v,o,k _ _ e,d⟩
 free:=by
   show upd H D (.lst []) C=none;rw[au Q9.symm];exact I.c7.fresh hC
 kQ:=λx a e=>by
   obtain⟨v,o,e',d⟩:=I.cell x a (fj e);rw[au (cv (bp (ag e') hD))];exact I.kQ x a (fj e)
 pin:=λp hp=>nomatch hp
 c7:=I.c7.laid k hD new
 len:=by
   show(pick σ src).length=N.length;rw[c.len,pick,ab]
theorem Inv.ur {σ':St}(I:Inv X pins σ H s)(hf:∀b∈fp,lN X pins H b)(hC:s.heap.objs.size<=C)
   (J:Inv (X.comp N sc C s H fp) [] σ' H' s') (hs:∀b,b≠C->h'.get? b=s'.heap.get? b):Inv X pins σ H' { s' with heap:=h' }:=by
 have ne:∀b o,s.heap.get? b=some o->b≠C:=λb o e=>cv (bp (ag e) hC);have u:Un (Cd X.stack) fp H H' s.heap s'.heap:=J.base;have u':Un (Cd X.stack) fp H H' s.heap h':=⟨λb o e n a x=>(hs b (ne b o e)).trans (u.keep b o e n a x),λb o e n a x=>by
     obtain⟨sl,q⟩:=u.slot b o e n a x;exact⟨sl,(hs b (ne b o e)).trans q⟩,u.free,λb o e x=>by
     obtain⟨o',q⟩:=u.there b o e x;exact⟨o',(hs b (ne b o e)).trans q⟩,u.tQ,u.rH,u.tR⟩
 refine I.Ux (s':={ s' with heap:=h' }) J.os u' (λb ob e=>?_) J.bare λb hb=>⟨(hf b hb).2.2.2.1,(hf b hb).2.1,(hf b hb).2.2.2.2.1,(hf b hb).2.2.2.2.2⟩
 have fr:H' C=none:=J.free;refine(J.c7 b ob e).pD (λa w' ha q=>(hs a ?_).trans q) (λ_ q=>q) λ_ _ q=>q;rintro rfl;rcases ha with rfl | ha
 . rw[fr]at e;cases e
 . rw[fr]at ha;cases ha
end
abbrev F0:Value->Shared->Prop:=λ_ _=>False
theorem zB {target:Expr}{it acc:Value}(I:Nat->Shared->Prop)
   (turn:∀n s,I n s->wpAny (model prog w) A (pyNext it) (λr s₁=>match r with
     | none=>R (.ok .next) s₁
     | some v=>wpAny (model prog w) A (letOwnedTupleGo target it v) (λ_ s₁'=>wpAny (model prog w) A (assign target env v) (λ_ s₂=>
         wpAny (model prog w) A (forIn ifs true λc r=>if r=true then do let ok <- isTrue c env (eval c env);pure (ForInStep.yield ok) else pure (ForInStep.yield r)) (λok s₃=>
           if ok=true then wpAny (model prog w) A (eval elt env) (λx s₄=>
             wpAny (model prog w) A (call (.builtin "list.append") [acc,x]) (λ_ s₅=>∃m,m < n/\I m s₅) F0 s₄) F0 s₃
           else ∃m,m < n/\I m s₃) F0 s₂) F0 s₁') F0 s₁) F0 s)
   (n:Nat) (h:I n s):
   codeAny (model prog w) A (.compLoop (.ListComp elt [⟨target,iter,ifs,0⟩] scope pos) 0 it acc env) R s:=by
 refine codeAny_loop rfl I (λn s hI=>?_) n h;show wpAny _ A ((compTurn (.ListComp elt [⟨target,iter,ifs,0⟩] scope pos) 0 it acc env).onRaise (λx=>do noteFrame x env;theTreesLotGoes x)) _ _ s;refine wpAny_noted ?_;rw[compTurn_list];refine B1 (Hm (B1 (Fu (turn n s hI) (λr s₁ h₁=>?_) λ_ _ h'=>h'.elim)));cases r with
 | none=>exact B2 h₁
 | some v=>
   refine B1 (Fu h₁ (λ_ s₁' h₁'=>?_) λ_ _ h'=>h'.elim);refine B1 (Fu h₁' (λ_ s₂ h₂=>B1 (Fu h₂ (λok s₃ h₃=>?_) λ_ _ h'=>h'.elim)) λ_ _ h'=>h'.elim);cases ok with
   | false=>exact B2 ⟨rfl,h₃⟩
   | true=>
     exact B1 (B1 (Fu h₃ (λx s₄ h₄=>B1 (Fu h₄ (λ_ s₅ h₅=>B2 (B2 ⟨rfl,h₅⟩)) λ_ _ h'=>h'.elim)) λ_ _ h'=>h'.elim))
def PF (X:Cx)(ifs:List Expr)(t:TT):Prop:=
 ∀(pins:List (Addr×Obj)) (s:Shared) (σ:St) (H:Hp) (Q:Bool->Hp->Prop),Inv X pins σ H s->t σ H Q->
   wpAny (model X.prog X.w) X.A (forIn ifs true λc r=>if r=true then do let ok <- isTrue c X.env (eval c X.env);pure (ForInStep.yield ok) else pure (ForInStep.yield r)) (TP X pins σ Q) X.xe s
structure JF (X:Cx)(ifs:List Expr)(t:TT):Prop where h:PF X ifs t
def pK:TT:=λ_ H Q=>Q true H
theorem c6 :JF X [] pK:=⟨λ_ _ _ H _ I h=>wpAny_tests_nil ⟨H,I,h⟩⟩
theorem zC {c:Expr}{t:TT}(h:JT X c t):JF X [c] t:=⟨λpins s σ H Q I q=>wpAny_tests_one (h.h pins s σ H Q I q)⟩
def b7 (J:It)(g:TG)(tt:TT)(te:TE)(D:Addr)(Q:Hp->Prop)(σ:St)(H:Hp):Prop:=∃W:Nat->Nat->List V->St->Hp->Prop,(∃m,W 0 m [] σ H)/\∀i m acc σ H,W i m acc σ H->
 (J.stop i H/\Q H)∨(J.go i H/\∃N:List V->St->Hp->Prop,(∀acc' σ' H',N acc' σ' H'->∃m',m' < m/\W (i + 1) m' acc' σ' H')/\∀x H',J.Me i H x H'->g x σ H' λσ2 H2=>tt σ2 H2 λb H3=>
   if b=true then te σ2 H3 λv H4=>H4 D=some (.lst acc)/\acc.length < sizeLine/\N (acc++[v]) σ2 (upd H4 D (.lst (acc++[v])))
   else N acc σ2 H3)
def GU (K:Frag)(wi:TI)(src:List (Option Nat))(g:TG)(tt:TT)(te:TE):TE:=λσ H Q=>wi σ H λJ H1=>∀D,L2.new K H1 D->b7 J g tt te D (λH'=>Q (.ref D) H') (pick σ src) (upd H1 D (.lst []))
section
variable {N:List Str}{tt:TT}
theorem A8 {R:Value->Addr->Result->Shared->Prop}(c:zz X sc N src)(hc:X.calm=true)
   (hg:∀C s H fp,JG (X.comp N sc C s H fp) tg g) (ht:∀C s H fp,JF (X.comp N sc C s H fp) ifs tt) (he:∀C s H fp,JE (X.comp N sc C s H fp) elt te)
   {Q:V->Hp->Prop}(I:Inv X pins σ H s) (T:Turn X.prog X.w X.K tg J fp it tn) (st:tn 0 s.heap) (hf:∀b∈fp,lN X pins H b)
   (h:∀D,L2.new X.K H D->b7 J g tt te D (λH'=>Q (.ref D) H') (pick σ src) (upd H D (.lst [])))
   (hR:∀D C s' σ' H',s.heap.objs.size<=C->Inv (X.comp N sc C s H fp) [] σ' H' s'->Q (.ref D) H'->R (.ref D) C (.ok .next) s'):
   wpAny (model X.prog X.w) X.A (newList []) (λacc s₃=>wpAny (model X.prog X.w) X.A (newFunctionEnv sc X.env.globals (gX X.env sc.names []) [] X.env.qual none .none (some X.env)) (λcenv s₄=>
     codeAny (model X.prog X.w) X.A (.compStart (.ListComp elt [⟨tg,iter,ifs,0⟩] sc pos) 0 (.ref it) acc { cenv with scope:=relabel sc X.env }) (R acc cenv.locals) s₄) E s₃) E s:=by
 refine Kk (wpAny_newFunctionEnv c.cell (by intro y hy;simp at hy) (λh₁ hns₁ hsb₁=>?_) c.kind);dsimp only at hns₁ hsb₁ ⊢;generalize hH2:s.heap.push { cls:=.type "list",dict:=none,data:=.seq ([]:List Value).toArray }=H2 at hns₁ hsb₁ ⊢;have hC:H2.objs.size=s.heap.objs.size + 1:=by rw[<- hH2,eC]
 have Q9:s.heap.objs.size≠H2.objs.size:=by rw[hC];exact cv (i4 _)
 have JL:s.heap.objs.size<=H2.objs.size:=by rw[hC];exact Nat.le_succ _
 have below:∀b,b < s.heap.objs.size->b≠H2.objs.size:=λb hb=>by rw[hC];exact cv (ib hb)
 have old:∀b o,s.heap.get? b=some o->h₁.get? b=some o:=λb o e=>hsb₁.extBut b o (below b (ag e)) (ae _ (hH2 ▸ ae _ e));have Ra:h₁.get? s.heap.objs.size=some { cls:=.type "list",dict:=none,data:=.seq ([]:List Value).toArray }:=hsb₁.extBut _ _ Q9 (ae _ (hH2 ▸ cb _ rfl));have ho:∀b∈fp,∃o,s.heap.get? b=some o:=λb hb=>let ⟨o,e,_⟩:=T.obj _ _ st b hb;⟨o,e⟩;have I0:=I.block (t':=s.toks + ([]:List (Str×Value)).length) c hf ho (ar _) JL Q9 old hns₁ ⟨hU _,[],0,.nil,Ra⟩;have Vb:tn 0 h₁:=T.keep _ _ _ st λb hb o e=>old b o e;obtain⟨W,⟨m0,w0⟩,turn⟩:=h _ I.new;have pF:∀{H':Hp},(∀b∈fp,H' b=none)->∀b∈fp,lN (X.comp N sc H2.objs.size s H fp) [] H' b:=λhn b hb=>by
   obtain⟨f0,f1,f2,f3,f4,f5⟩:=hf b hb;obtain⟨o,e⟩:=ho b hb;refine⟨hn b hb,below b (ag e),λz=>?_,.inl hb,λx a q=>f4 x a (fj q),λp hp=>nomatch hp⟩;rcases List.mem_cons.mp (I.uI b z)with q | q
   . exact f1 q
   . exact f2 q
 have YE:∀b∈fp,(upd H s.heap.objs.size (.lst [])) b=none:=λb hb=>by
   obtain⟨o,e⟩:=ho b hb;rw[au (cv (ag e))];exact(hf b hb).1
 have loop:∀s₃:Shared,s₃={ s with heap:=h₁,toks:=s.toks + ([]:List (Str×Value)).length }->
     codeAny (model X.prog X.w) X.A (.compLoop (.ListComp elt [⟨tg,iter,ifs,0⟩] sc pos) 0 (.ref it) (.ref s.heap.objs.size) (compEnvC sc (gX X.env sc.names []) H2.objs.size X.env)) (R (.ref s.heap.objs.size) H2.objs.size) s₃:=by
   rintro s₃ rfl;refine zB (λn s'=>∃i acc σ' H',Inv (X.comp N sc H2.objs.size s H fp) [] σ' H' s'/\tn i s'.heap/\(∀b∈fp,H' b=none)/\W i n acc σ' H') ?_ m0 ⟨0,_,_,_,I0,Vb,YE,w0⟩;rintro n s3 ⟨i,acc,σ3,H3,I3,st3,fr3,w3⟩;rcases turn i n acc σ3 H3 w3 with ⟨stop,qn⟩ | ⟨go,NN,hNN,step⟩
   . refine bI (T.done (X.comp N sc H2.objs.size s H fp) rfl rfl rfl hc i [] s3 σ3 H3 F0 I3 (pF fr3) st3 stop) λr s4 ⟨hr,I4⟩=>?_;subst hr;exact hR _ _ _ _ _ JL I4 qn
   . refine bI (T.item (X.comp N sc H2.objs.size s H fp) rfl rfl rfl hc i [] s3 σ3 H3 F0 I3 (pF fr3) st3 go) λr s4 ⟨u,hr,h4⟩=>?_;subst hr;refine bI h4 λ_ s5 ⟨x,H5,I5,r5,y5,st5,fr5⟩=>?_;have Qt:=I5.pinned (pF fr5) (T.obj _ _ st5);refine bI ((hg _ _ _ _).h _ s5 σ3 H5 x u _ Qt r5 (step x H5 y5)) λ_ s6 ⟨σ6,H6,I6,q6⟩=>?_;refine bI ((ht _ _ _ _).h _ s6 σ6 H6 _ I6 q6) λb s7 ⟨H7,I7,q7⟩=>?_;have again:∀{uS:List V}{s8:Shared}{H8:Hp},Inv (X.comp N sc H2.objs.size s H fp) ([]++lO fp s5.heap) σ6 H8 s8->NN uS σ6 H8->∃m,m < n/\∃i acc σ' H',Inv (X.comp N sc H2.objs.size s H fp) [] σ' H' s8/\tn i s8.heap/\(∀b∈fp,H' b=none)/\W i m acc σ' H':=λ{uS s8 H8} I8 w=>by
       obtain⟨m',hm,w8⟩:=hNN _ _ _ w;refine⟨m',hm,i + 1,uS,σ6,H8,I8.gU,T.keep _ _ _ st5 λb hb o e=>(I8.pin (b,o) (cf _ (cf _ (eW hb e)))).1,λb hb=>?_,w8⟩;obtain⟨o,e,d⟩:=T.obj _ _ st5 b hb;exact(I8.pin (b,o) (cf _ (cf _ (eW hb e)))).2.1
     cases b with
     | false=>exact again I7 q7
     | true=>
       refine bI ((he _ _ _ _).h _ s7 σ6 H7 _ I7 q7) λy s8 ⟨v,H8,I8,r8,q8⟩=>?_;obtain⟨hx,hz,w8⟩:=q8;refine bI (fM (X:=X.comp N sc H2.objs.size s H fp) _ s8 σ6 H8 (.ref s.heap.objs.size) [v] (.ref s.heap.objs.size) [y] (λ_ H9=>H9=upd H8 s.heap.objs.size (.lst (acc++[v]))) I8 rfl (.cons r8 .nil) ⟨_,acc,v,rfl,rfl,hx,hz,rfl⟩) λ_ s9 ⟨_,H9,I9,_,q9⟩=>?_;subst q9;exact again I9 w8
 exact codeAny_compStart_list (loop _ rfl) (T.self _ 0 _ _ _ Vb (loop _ rfl))
theorem qe (c:zz X sc N src)(hc:X.calm=true)(hi:JI X tg iter wi)
   (hg:∀C s H fp,JG (X.comp N sc C s H fp) tg g) (ht:∀C s H fp,JF (X.comp N sc C s H fp) ifs tt) (he:∀C s H fp,JE (X.comp N sc C s H fp) elt te)
   (hs:∀x,foldedSetIterable iter X.env x=pure x:=by intro _;rfl):JE X (.ListComp elt [⟨tg,iter,ifs,0⟩] sc pos) (GU X.K wi src g tt te):=⟨by
 intro pins s σ H Q I h;rw[eval_ListComp];refine Kx (use:=none) rfl hs (gK λx hx hk=>?_) c.kind c.names ?_
 . obtain⟨n,k⟩:=x;cases hk;exact I.ok.has _ (c.free hx)
 refine bI (hi.h pins s σ H _ I h) λv s1 h1=>bI h1 λQp s2 h2=>?_;obtain⟨it,fp,tn,J,H2,e,I2,T,st2,f2,h2⟩:=h2;subst e;refine A8 (R:=λacc C=>compPost (model X.prog X.w) X.A X.xe none (EP X pins σ Q) acc C) (Q:=Q) c hc hg ht he I2 T st2 f2 h2 λD C s' σ' H' hC I' q=>?_;obtain⟨m,hn,_⟩:=id I'.loc;refine⟨m,hn,λh' sb=>?_⟩;exact⟨.ref D,H',I2.ur f2 hC I' λb hb=>sb.2 b hb,rfl,q⟩⟩
theorem YF {py JM:Pos}(hN:X.N.Nodup)(hy:X.N[i]?=some y)(hx:Loc X.env.scope y)(c:zz X sc N src)(hc:X.calm=true)(hi:JI X tg iter wi)
   (hg:∀C s H fp,JG (X.comp N sc C s H fp) tg g) (ht:∀C s H fp,JF (X.comp N sc C s H fp) ifs tt) (he:∀C s H fp,JE (X.comp N sc C s H fp) elt te)
   (YG:swapsWith (.ListComp elt [⟨tg,iter,ifs,0⟩] sc pos) (some (.Name y py)) JM.line X.env=pure true:=by rfl)
   (hf:X.fn y=true∨X.env.scope.names.lookup y=some .local:=by first | exact .inl rfl | exact .inr rfl | assumption)
   (hs:∀x,foldedSetIterable iter X.env x=pure x:=by intro _;rfl):JS X (.Assign [.Name y py] (.ListComp elt [⟨tg,iter,ifs,0⟩] sc pos) JM) (AJ (GU X.K wi src g tt te) (cQ i)):=⟨by
 intro pins s σ H D I h;rw[exec_Assign_Name_used _ _ _ _ YG];refine B1 (Hm (B1 ?_));show wpAny _ X.A (do let _ <- comprehension (.ListComp elt [⟨tg,iter,ifs,0⟩] sc pos) sc X.env _ (newList []) false (eval iter X.env) (some (assign (.Name y py) X.env))) _ _ s;refine B1 (Fu (Kx (use:=some (assign (.Name y py) X.env)) (Q:=λ_ s'=>SP X pins D .next s') rfl hs (gK λx hx hk=>?_) c.kind c.names ?_) (λ_ s' hq=>B2 (B2 hq)) λ_ _ e=>e)
 . obtain⟨n,k⟩:=x;cases hk;exact I.ok.has _ (c.free hx)
 refine bI (hi.h pins s σ H _ I h) λv s1 h1=>bI h1 λQp s2 h2=>?_;obtain⟨it,fp,tn,J,H2,e,I2,T,st2,f2,h2⟩:=h2;subst e;refine A8 (R:=λacc C=>compPost (model X.prog X.w) X.A X.xe (some (assign (.Name y py) X.env)) (λ_ s'=>SP X pins D .next s') acc C) (Q:=λv H'=>D.nx (σ.set i (some v)) H') c hc hg ht he I2 T st2 f2 h2 λL C s' σ' H' hC I' q=>?_;obtain⟨m,hn,_⟩:=id I'.loc;obtain⟨o,es,ep,ho,r⟩:=id hn;have I3:Inv X pins σ H' s':=I2.ur (h':=s'.heap) f2 hC I' λ_ _=>rfl;have cL:C≠X.env.locals:=fi (bp I2.lt hC);have cC:∀x a,X.env.cells.lookup x=some a->a≠C:=λx a e=>by
   obtain⟨v,o,e',_⟩:=I2.cell x a e;exact cv (bp (ag e') hC)
 have cP:∀p∈X.pn++pins,p.1≠C:=λp hp=>cv (bp (ag (I2.pin p hp).1) hC);have fr:H' C=none:=I'.free;have I4:Inv X (pins++[(C,o)]) σ H' s':=I3.ug λp hp=>(da.mp hp).elim (λz=>I3.pin p (cf _ z)) λz=>by
   have e:p=(C,o):=by simpa using z
   subst e;exact⟨ho,fr,cL,I2.P0 hC,λv z=>by
     have r1:=r
     simp_all⟩
 show wpAny (model X.prog X.w) X.A (assign (.Name y py) X.env (.ref L)) _ _ s';refine bI (ze (pos:=py) hN hy hx hf _ s' σ H' (.ref L) (.ref L) (λσ1 H1=>D.nx σ1 H1/\H1=H') I4 rfl ⟨q,rfl⟩) λ_ s5 ⟨σ5,H5,I5,q5,e5⟩=>?_;subst e5;have pC:=(I5.pin (C,o) (cf _ (cf _ RR))).1;refine⟨m,⟨o,es,ep,pC,r⟩,λh' sb=>?_⟩;exact⟨σ5,H5,I5.gU.turned (t':=s5.toks) (λb u hb e=>(sb.2 b hb).trans e) fr cL (.inr (cn I2.sz hC)) cC cP,q5⟩⟩
end
theorem JN :pick σ []=[]:=rfl
theorem JP {r:List (Option Nat)}:pick σ (none::r)=none::pick σ r:=rfl
theorem JQ {r:List (Option Nat)}:pick σ (some j::r)=(σ[j]?).join::pick σ r:=rfl
theorem join_some {o:Option α}:(some o).join=o:=rfl
section
variable {K:Frag}{tt:TT}{a:Addr}{Q:Hp->Prop}{lo:Int}
theorem uT (Pv:Nat->List V->St->Hp->Prop)(h0:Pv 0 [] σ H)(YH:∀i acc σ H,i < n->Pv i acc σ H->J.go i H)(Cv:∀acc σ H,Pv n acc σ H->J.stop n H)
   (hs:∀i acc σ H x H',i < n->Pv i acc σ H->J.Me i H x H'->g x σ H' λσ2 H2=>tt σ2 H2 λb H3=>if b=true then te σ2 H3 λv H4=>H4 D=some (.lst acc)/\acc.length < sizeLine/\Pv (i + 1) (acc++[v]) σ2 (upd H4 D (.lst (acc++[v]))) else Pv (i + 1) acc σ2 H3)
   (hd:∀acc σ H,Pv n acc σ H->Q H):b7 J g tt te D Q σ H:=by
 refine⟨λi m acc σ H=>Pv i acc σ H/\i<=n/\m=n - i,⟨n,h0,hU _,by omega⟩,λi m acc σ H ⟨h,hi,hm⟩=>?_⟩
 by_cases c:i < n
 . right
   exact⟨YH i acc σ H c h,Pv (i + 1),λacc' σ' H' q=>⟨n - (i + 1),by omega,q,by omega,rfl⟩,λx H' hy=>hs i acc σ H x H' c h hy⟩
 . left
   have e:i=n:=QR
   subst e;exact⟨Cv acc σ H h,hd acc σ H h⟩
theorem lW (Pv:Nat->List V->St->Hp->Prop)(h0:Pv 0 [] σ H)
   (hs:∀i acc σ H,i < n->Pv i acc σ H->g (.int (lo + i)) σ H λσ2 H2=>tt σ2 H2 λb H3=>if b=true then te σ2 H3 λv H4=>H4 D=some (.lst acc)/\acc.length < sizeLine/\Pv (i + 1) (acc++[v]) σ2 (upd H4 D (.lst (acc++[v]))) else Pv (i + 1) acc σ2 H3)
   (hd:∀acc σ H,Pv n acc σ H->Q H):b7 (zf lo n) g tt te D Q σ H:=by
 refine uT (n:=n) Pv h0 (λi _ _ _ h _=>h) (λ_ _ _ _=>ar _) (λi acc σ H x H' hi h hy=>?_) hd;obtain⟨rfl,rfl⟩:=hy;exact hs i acc σ _ hi h
theorem iF (Pv:Nat->List V->St->Hp->Prop)(h0:Pv 0 [] σ H)(hl:∀i acc σ H,i<=xs.length->Pv i acc σ H->aR K H a xs)
   (hs:∀i x acc σ H,xs[i]?=some x->Pv i acc σ H->g x σ H λσ2 H2=>tt σ2 H2 λb H3=>if b=true then te σ2 H3 λv H4=>H4 D=some (.lst acc)/\acc.length < sizeLine/\Pv (i + 1) (acc++[v]) σ2 (upd H4 D (.lst (acc++[v]))) else Pv (i + 1) acc σ2 H3)
   (hd:∀acc σ H,Pv xs.length acc σ H->Q H):b7 (sQ K a) g tt te D Q σ H:=by
 refine uT (n:=xs.length) Pv h0 (λi acc σ H hi h=>⟨xs,_,hl i acc σ H (fg hi) h,a9 hi⟩) (λacc σ H h=>⟨xs,hl _ acc σ H (ar _) h,ar _⟩) (λi acc σ H x H' hi h hy=>?_) hd;obtain⟨rfl,hy⟩:=hy;exact hs i x acc σ _ (hy xs (hl i acc σ _ (fg hi) h)) h
theorem JR {Q:VK}:GU K (AL ta) src g tt te σ H Q=ta σ H (λvs H1=>∃j:Int,vs=[.int j]/\-(2 ^ 62)<=j/\j < 2 ^ 62/\∀D,L2.new K H1 D->b7 (zf 0 j.toNat) g tt te D (λH'=>Q (.ref D) H') (pick σ src) (upd H1 D (.lst []))):=rfl
theorem JU {Q:VK}:GU K (AM ta) src g tt te σ H Q=ta σ H (λvs H1=>∃i j:Int,vs=[.int i,.int j]/\(-(2 ^ 62)<=i/\i < 2 ^ 62/\-(2 ^ 62)<=j/\j < 2 ^ 62)/\∀D,L2.new K H1 D->b7 (zf i (j - i).toNat) g tt te D (λH'=>Q (.ref D) H') (pick σ src) (upd H1 D (.lst []))):=rfl
theorem JV {Q:VK}:GU K (qh K tl) src g tt te σ H Q=tl σ H (λx H1=>∃a,x=.ref a/\(∃xs,aR K H1 a xs)/\∀D,L2.new K H1 D->b7 (sQ K a) g tt te D (λH'=>Q (.ref D) H') (pick σ src) (upd H1 D (.lst []))):=rfl
theorem M8 {Q:VK}:GU K (Qq K tl) src g tt te σ H Q=tl σ H (λx H1=>∃a,x=.ref a/\(∃xs,wK K H1 a xs)/\∀D,L2.new K H1 D->b7 (W4 K a) g tt te D (λH'=>Q (.ref D) H') (pick σ src) (upd H1 D (.lst []))):=rfl
end
section
variable {t:TA}(K:Frag)
theorem EH (hk:X.K=K:=by rfl):OG X (M6 K):=by subst hk;exact jv
theorem C3 (hk:X.K=K:=by rfl):ef X (.builtin "len") (λxs H Q=>∃p ys,xs=[.ref p]/\jZ K H p=some ys/\Q (.int ys.length) H):=by subst hk;exact yj
theorem uU {k}(h:JA X es t)(hk:X.K=K:=by rfl):JE X (.Tuple es k pos) (EE K t):=by subst hk;exact OM h
theorem JX (h:JA X es t)(hk:X.K=K:=by rfl):JE X (.List es pos) (EF K t):=by subst hk;exact ON h
theorem JY (hk:X.K=K:=by rfl):iM X (binaryOp .Add) (JJ K):=by subst hk;exact dg
theorem GV (hk:X.K=K:=by rfl):W8 X (Q8 K):=by subst hk;exact qw
theorem iT {k:Nat}{t:Ay}(hc:X.calm=true)(h:OL X es t)(hn:(assignEach es X.env).length=n:=by rfl)(Cv:(assignEach es X.env).findIdx? (·.1)=none:=by rfl)(hk:X.K=K:=by rfl):JG X (.Tuple es k pos) (EG K n t):=by subst hk;exact dD hc h hn Cv
theorem JZ {l:Expr}(hl:JE X l te)(hk:X.K=K:=by rfl):JI X tg l (qh K te):=by subst hk;exact bU hl
end
theorem Inv.lX (I:Inv X pins σ H s){a:Addr}(h:H a=some o):jI X.K a=none:=by
 cases e:jI X.K a with
 | none=>rfl
 | some xs=>
   obtain⟨ob,q⟩:=yo e;rw[(I.bs a ob (I.ok.mod.Ms a ob q)).2]at h;cases h
theorem b9:ef X (.type "list") (λxs H Q=>∃p ys,xs=[.ref p]/\jZ X.K H p=some ys/\∀l,L2.new X.K H l->Q (.ref l) (upd H l (.lst ys))):=by
 intro pins s σ H xs us Q I r h;obtain⟨p,ys,e,hq,q⟩:=h;refine bI (zm pins s σ H xs us (λv H'=>∃l,H l=none/\v=.ref l/\H'=upd H l (.lst ys)) I r ⟨p,ys,e,qu hq,λl hl=>⟨l,hl,rfl,rfl⟩⟩) λu s' ⟨v,H',I',rv,l,hl,e1,e2⟩=>?_;subst e1 e2;exact⟨_,_,I',rv,q l ⟨hl,I'.lX af⟩⟩
theorem iU (K:Frag)(hk:X.K=K:=by rfl):ef X (.type "list") (λxs H Q=>∃p ys,xs=[.ref p]/\jZ K H p=some ys/\∀l,L2.new K H l->Q (.ref l) (upd H l (.lst ys))):=by subst hk;exact b9
theorem oO.kp {K:Frag}(k:oO K p D (upd H D o) H')(n:L2.new K H D):Kp K p H H':=by
 refine⟨λq u e m=>?_,λb ys e m=>k.mod b ys ((Ext.new n).mod b ys e m) m⟩;have d:q≠D:=aH e n.1;exact k.keep q u (by rw[au d];exact e) m d
theorem oO.refl {K:Frag}:oO K p D H H:=⟨λ_ _ h _ _=>h,λ_ _ h _=>h⟩
def gY (es:Array DictEntry):Bool:=es.toList.all λe=>match e.key with | .str _ _=>true | _=>false
theorem C4 {es:Array DictEntry}(h:gY es=true):StrKeys es:=λe he=>by
 have q:=eI.mp h e (by simpa using he);cases k:e.key <;> rw[k]at q <;> first | exact⟨_,_,rfl⟩ | cases q
theorem J0 {K:Frag}{args:Args}{binds:List (Str×Value)}{d:Addr}{v cls:Value}{es:Array DictEntry}{k:Option Value->Sem (List (Str×Value))}
   (hK:K.In s.heap) (l:K.lookup d=some ⟨cls,od,.dict es ep,sl⟩) (hs:gY es=true) (hf:nsFind es name=some v) (h₁:bindArgs fd args=nsGet d name >>=k) (h₂:k (some v)=pure binds):BindsTo s fd args binds:=
 λM A E Q hq=>by
   rw[h₁];have hn:s.heap.Ns d (λn=>nsFind es n):=⟨_,es,ep,hK d _ l,rfl,C4 hs,λ_=>rfl⟩
   refine B1 (wpAny_nsGet hn ?_);rw[hf,h₂];exact B2 hq
def gk (n m:Nat)(us ws:List α):List α:=if us.length=n/\ws.length=m then us++ws else []
theorem Rb {vs:List V}{zs:List V}{ws:List Value}(r:Vals vs us)(r':Vals zs ws):Vals (gk n m vs zs) (gk n m us ws):=by
 unfold gk;rw[r.length,r'.length];split
 . exact r.append r'
 . exact .nil
theorem Vc {a b:α}:gk 1 1 [a] [b]=[a,b]:=rfl
theorem Vd {a b c d:α}:gk 3 1 [a,b,c] [d]=[a,b,c,d]:=rfl
theorem Rc {K:Frag}{ks:List Str}(hn:ps.length=n + m)(hp:0 < n + m)(h:∀(s:Shared) (us ws:List Value),us.length=n->ws.length=m->BindsTo s fd ⟨us,ks.zip ws⟩ (ps.zip (us++ws))):rM K fd ps ks (gk n m) (gk n m) where
 to:=λs us ws _ hl=>by
   unfold gk at hl ⊢;split
   . next c=>exact h s us ws c.1 c.2
   . next c=>rw[Ee c]at hl;simp only[List.length_nil]at hl;omega
 rel:=Rb
structure JK (X:Cx)(rB:List Keyword)(t:TA):Prop where h:PK X rB t
structure qy (P:Program)(w:World)(K:Frag)(mg:Str->Option Value)(base:Heap)(x:Str)(k:Nat)(ps:List Str)(ks:List Str)(n m:Nat)(sp:Sp):Prop where
 ex:∃(f:Addr) (fd:FuncData),dH P w K mg base oH k f fd ps sp/\rM K fd ps ks (gk n m) (gk n m)/\keepIn K (.ref f)=true/\mg x=some (.ref f)
structure M9 (P:Program)(w:World)(K:Frag)(mg:Str->Option Value)(base:Heap)(x:Str)(k:Nat)(ps:List Str)(jW:List V)(sp:Sp):Prop where
 ex:∃(f:Addr) (fd:FuncData) (ds:List Value),dH P w K mg base oH k f fd ps sp/\Binds K fd ps ds/\Vals jW ds/\keepIn K (.ref f)=true/\mg x=some (.ref f)
section
variable {k:Nat}{ks:List Str}{jW:List V}{rB:List Keyword}{t tk:TA}{p QC:Pos}{nm:Option Str}
theorem Ka:JK X [] wQ:=⟨QD⟩
theorem A9 (ha:JE X e te)(hr:JK X rB t):JK X (⟨nm,e,QC⟩::rB) (qi te t):=⟨MP ha.h hr.h⟩
theorem C5 (C:qy X.prog X.w X.K X.mg X.base x k ps ks n m sp)(hr:dB k X.A)(hg:Gl X x)(ha:JA X (e::es) t)(UJ:JK X rB tk)(zg:(backToKw pos (keywordEach rB X.env)).all (·.1.isSome)=true:=by rfl)(Je:(backToKw pos (keywordEach rB X.env)).filterMap (·.1)=ks:=by rfl)
   (wR:(x==("__debug__":Str))=false:=by decide) (he:starEach (e::es) X.env=(false,eval e X.env)::starEach es X.env:=by rfl)
   (nu:((backTo pos (starEach (e::es) X.env)).any (·.1)||(backToKw pos (keywordEach rB X.env)).any (·.1.isNone))=false:=by rfl):
   JE X (.Call (.Name x p) (e::es) rB pos) (CL sp (gk n m) E0 t tk):=⟨by
 intro pins s σ H Q I h;obtain⟨f,fd,F,b,kp,mm⟩:=C.ex;exact Jd F hr hg mm kp b yi ha.h UJ.h zg Je wR he nu pins s σ H Q I h⟩
end
section
variable {K:Frag}{args:Args}{binds:List (Str×Value)}{d:Addr}{v cls:Value}{es:Array DictEntry}{β:Type}
theorem GW {f:Option Value->Sem α}{g:α->Sem (List (Str×Value))}
   (hK:K.In s.heap) (l:K.lookup d=some ⟨cls,od,.dict es ep,sl⟩) (hs:gY es=true) (hf:nsFind es name=some v) (h₁:bindArgs fd args=(nsGet d name >>=f) >>=g) (h₂:(f (some v) >>=g)=pure binds):BindsTo s fd args binds:=
 J0 (k:=λx=>f x >>=g) hK l hs hf (by rw[h₁,bind_assoc]) h₂
theorem iJ {f:Option Value->Sem α}{g:α->Sem β}{k:β->Sem (List (Str×Value))}
   (hK:K.In s.heap) (l:K.lookup d=some ⟨cls,od,.dict es ep,sl⟩) (hs:gY es=true) (hf:nsFind es name=some v) (h₁:bindArgs fd args=((nsGet d name >>=f) >>=g) >>=k) (h₂:((f (some v) >>=g) >>=k)=pure binds):BindsTo s fd args binds:=
 GW (f:=f) (g:=λx=>g x >>=k) hK l hs hf (by rw[h₁,bind_assoc]) (by rw[<- h₂,bind_assoc])
end
section
variable {o lo hi:Expr}{to th:TE}{p:Pos}
theorem Ba:∀{xs:List V}{us:List Value},Vals xs us->Vals xs.reverse us.reverse:=by
 intro xs us h;induction h with
 | nil=>exact .nil
 | cons r rr ih=>rw[List.reverse_cons,List.reverse_cons];exact ih.append (.cons r .nil)
def Ve (K:Frag)(te:TE):TE:=λσ H Q=>te σ H λx H1=>∃a xs,x=.ref a/\aR K H1 a xs/\∀p,L2.new K H1 p->Q (.ref p) (upd H1 p (.lst xs.reverse))
theorem Vf {p1 p3:Pos}(he:JE X e te):JE X (.Subscript e (.Slice none none (some (.UnaryOp .USub (.Constant (.int 1) j1 p1) p2)) p3) pos) (Ve X.K te):=⟨by
 intro pins s σ H Q I h;refine Subscript_ (bI (he.h pins s σ H _ I h) λv s1 ⟨x,H1,I1,r1,q1⟩=>?_);refine wpAny_Slice ?_;rw[PQ];refine B2 (B2 ?_);rw[evalPart_some];refine bI ((Q5 (pos:=p2) pH (ei (X:=X) (i:=1) (j:=j1) (pos:=p1))).h pins s1 σ H1 (λy H2=>y=.int (-1)/\H2=H1) I1 ⟨1,rfl,rfl,rfl⟩) λvs s2 ⟨y,H2,I2,r2,q2,q3⟩=>?_;subst q2 q3;obtain⟨tk,rfl⟩:=r2;obtain⟨a,xs,rfl,hx,q⟩:=q1;cases r1;have I4:Inv X pins σ H2 { s2 with heap:=s2.heap.push { cls:=.type "slice",data:=.fields #[.none,.none,.int (-1) tk] } }:=I2.kept (t':=s2.toks) λb ob q=>ae _ q;obtain⟨bu,r,ht,hz⟩:=I4.list hx;have hlen:=r.length;show wpAny (model X.prog X.w) X.A (subscriptTail e (.Slice none none (some (.UnaryOp .USub (.Constant (.int 1) j1 p1) p2)) p3) (.ref a) (.ref s2.heap.objs.size)) (EP X pins σ Q) X.xe { s2 with heap:=s2.heap.push { cls:=.type "slice",data:=.fields #[.none,.none,.int (-1) tk] } };refine tail_any (ops:=[.ref a,.ref s2.heap.objs.size]) ht.isList.typeIs slot_list_getitem.lookup ?_ SF;refine OK ht.isList (wx ..) .none .none (.int _ _) RF ?_ (by rw[cp] <;> omega);rw[PySem.W.krv_pick];exact⟨.ref _,_,I4.QN (t':=s2.toks) (Ba r) (by rw[fo];exact hz),rfl,q _ I4.new⟩⟩
end
abbrev Xd:=List V->St->Hp->(List V->St->Hp->Prop)->Prop
def fJ (J:It)(g:TG)(tt:TT)(body:Xd)(Bb:List V)(F:List V->St->Hp->Prop)(σ:St)(H:Hp):Prop:=∃W:Nat->Nat->List V->St->Hp->Prop,(∃m,W 0 m Bb σ H)/\∀i m acc σ H,W i m acc σ H->
 (J.stop i H/\F acc σ H)∨(J.go i H/\∃N:List V->St->Hp->Prop,(∀acc' σ' H',N acc' σ' H'->∃m',m' < m/\W (i + 1) m' acc' σ' H')/\∀x H',J.Me i H x H'->g x σ H' λσ2 H2=>tt σ2 H2 λb H3=>
   if b=true then body acc σ2 H3 N else N acc σ2 H3)
def yu (te:TE)(D:Addr):Xd:=λacc σ H N=>te σ H λv H4=>H4 D=some (.lst acc)/\acc.length < sizeLine/\N (acc++[v]) σ (upd H4 D (.lst (acc++[v])))
def sV (wi:TI)(g:TG)(tt:TT)(te:TE)(D:Addr):Xd:=λacc σ H N=>wi σ H λJ H1=>fJ J g tt (yu te D) acc N σ H1
def Na (K:Frag)(wi:TI)(src:List (Option Nat))(g:TG)(tt:TT)(EI:TI)(g1:TG)(EJ:TT)(te:TE):TE:=λσ H Q=>wi σ H λJ H1=>∀D,L2.new K H1 D->fJ J g tt (sV EI g1 EJ te D) [] (λ_ _ H'=>Q (.ref D) H') (pick σ src) (upd H1 D (.lst []))
section
variable {lB bY:Expr}{fS:List Expr}{it acc:Value}
theorem C6:compTurn (.ListComp elt [⟨tg,iter,ifs,0⟩,⟨lB,bY,fS,0⟩] scope pos) 0 it acc env=(do
     standAt iter.pos
     match <- pyNext it with
     | none=>pure (.done .next)
     | some v=>
       letOwnedTupleGo tg it v
       assign tg env v
       let mut ok:=true
       for c in ifs do
         if ok then ok <- isTrue c env (eval c env)
       if ok then
         let x <- eval bY env
         standAt bY.pos
         let x <- foldedSetIterable bY env x
         let _ <- runOwn (.compStart (.ListComp elt [⟨tg,iter,ifs,0⟩,⟨lB,bY,fS,0⟩] scope pos) 1 (<- holding [x] (pyIter x)) acc env) env
       again (.compLoop (.ListComp elt [⟨tg,iter,ifs,0⟩,⟨lB,bY,fS,0⟩] scope pos) 0 it acc env)):=by rfl
theorem C7:compTurn (.ListComp elt [⟨tg,iter,ifs,0⟩,⟨lB,bY,fS,0⟩] scope pos) 1 it acc env=(do
     standAt bY.pos
     match <- pyNext it with
     | none=>pure (.done .next)
     | some v=>
       letOwnedTupleGo lB it v
       assign lB env v
       let mut ok:=true
       for c in fS do
         if ok then ok <- isTrue c env (eval c env)
       if ok then
         (do let _ <- call (.builtin "list.append") [acc,<- eval elt env])
       again (.compLoop (.ListComp elt [⟨tg,iter,ifs,0⟩,⟨lB,bY,fS,0⟩] scope pos) 1 it acc env)):=by rfl
theorem C8 (I:Nat->Shared->Prop)
   (turn:∀n s,I n s->wpAny (model prog w) A (pyNext it) (λr s₁=>match r with
     | none=>R (.ok .next) s₁
     | some v=>wpAny (model prog w) A (letOwnedTupleGo lB it v) (λ_ s₁'=>wpAny (model prog w) A (assign lB env v) (λ_ s₂=>
         wpAny (model prog w) A (forIn fS true λc r=>if r=true then do let ok <- isTrue c env (eval c env);pure (ForInStep.yield ok) else pure (ForInStep.yield r)) (λok s₃=>
           if ok=true then wpAny (model prog w) A (eval elt env) (λx s₄=>
             wpAny (model prog w) A (call (.builtin "list.append") [acc,x]) (λ_ s₅=>∃m,m < n/\I m s₅) F0 s₄) F0 s₃
           else ∃m,m < n/\I m s₃) F0 s₂) F0 s₁') F0 s₁) F0 s)
   (n:Nat) (h:I n s):
   codeAny (model prog w) A (.compLoop (.ListComp elt [⟨tg,iter,ifs,0⟩,⟨lB,bY,fS,0⟩] scope pos) 1 it acc env) R s:=by
 refine codeAny_loop rfl I (λn s hI=>?_) n h;show wpAny _ A ((compTurn (.ListComp elt [⟨tg,iter,ifs,0⟩,⟨lB,bY,fS,0⟩] scope pos) 1 it acc env).onRaise (λx=>do noteFrame x env;theTreesLotGoes x)) _ _ s;refine wpAny_noted ?_;rw[C7];refine B1 (Hm (B1 (Fu (turn n s hI) (λr s₁ h₁=>?_) λ_ _ h'=>h'.elim)));cases r with
 | none=>exact B2 h₁
 | some v=>
   refine B1 (Fu h₁ (λ_ s₁' h₁'=>?_) λ_ _ h'=>h'.elim);refine B1 (Fu h₁' (λ_ s₂ h₂=>B1 (Fu h₂ (λok s₃ h₃=>?_) λ_ _ h'=>h'.elim)) λ_ _ h'=>h'.elim);cases ok with
   | false=>exact B2 ⟨rfl,h₃⟩
   | true=>
     exact B1 (B1 (Fu h₃ (λx s₄ h₄=>B1 (Fu h₄ (λ_ s₅ h₅=>B2 (B2 ⟨rfl,h₅⟩)) λ_ _ h'=>h'.elim)) λ_ _ h'=>h'.elim))
theorem C9 (I:Nat->Shared->Prop)(hs:∀x,foldedSetIterable bY env x=pure x)
   (turn:∀n s,I n s->wpAny (model prog w) A (pyNext it) (λr s₁=>match r with
     | none=>R (.ok .next) s₁
     | some v=>wpAny (model prog w) A (letOwnedTupleGo tg it v) (λ_ s₁'=>wpAny (model prog w) A (assign tg env v) (λ_ s₂=>
         wpAny (model prog w) A (forIn ifs true λc r=>if r=true then do let ok <- isTrue c env (eval c env);pure (ForInStep.yield ok) else pure (ForInStep.yield r)) (λok s₃=>
           if ok=true then wpAny (model prog w) A (eval bY env) (λx s₄=>wpAny (model prog w) A (pyIter x) (λit' s₅=>
             codeAny (model prog w) A (.compStart (.ListComp elt [⟨tg,iter,ifs,0⟩,⟨lB,bY,fS,0⟩] scope pos) 1 it' acc env) (λr s₆=>match r with | .ok _=>∃m,m < n/\I m s₆ | .error _=>False) s₅) F0 s₄) F0 s₃
           else ∃m,m < n/\I m s₃) F0 s₂) F0 s₁') F0 s₁) F0 s)
   (n:Nat) (h:I n s):
   codeAny (model prog w) A (.compLoop (.ListComp elt [⟨tg,iter,ifs,0⟩,⟨lB,bY,fS,0⟩] scope pos) 0 it acc env) R s:=by
 refine codeAny_loop rfl I (λn s hI=>?_) n h;show wpAny _ A ((compTurn (.ListComp elt [⟨tg,iter,ifs,0⟩,⟨lB,bY,fS,0⟩] scope pos) 0 it acc env).onRaise (λx=>do noteFrame x env;theTreesLotGoes x)) _ _ s;refine wpAny_noted ?_;rw[C6];refine B1 (Hm (B1 (Fu (turn n s hI) (λr s₁ h₁=>?_) λ_ _ h'=>h'.elim)));cases r with
 | none=>exact B2 h₁
 | some v=>
   refine B1 (Fu h₁ (λ_ s₁' h₁'=>?_) λ_ _ h'=>h'.elim);refine B1 (Fu h₁' (λ_ s₂ h₂=>B1 (Fu h₂ (λok s₃ h₃=>?_) λ_ _ h'=>h'.elim)) λ_ _ h'=>h'.elim);cases ok with
   | false=>exact B2 ⟨rfl,h₃⟩
   | true=>
     refine B1 (Fu h₃ (λx s₄ h₄=>?_) λ_ _ h'=>h'.elim);refine B1 (Hm (B1 (wpAny_of_eq (hs x) (B1 (Fs (Fu h₄ (λit' s₅ h₅=>?_) λ_ _ h'=>h'.elim))))));refine B1 (wpAny_runOwn (Kt h₅ λr s₆ h₆=>?_));cases r with
     | ok f=>exact B2 ⟨rfl,h₆⟩
     | error x=>exact h₆.elim
theorem Bc
   (h0:codeAny (model prog w) A (.compLoop (.ListComp elt [⟨tg,iter,ifs,0⟩,⟨lB,bY,fS,0⟩] scope pos) 1 it acc env) R s)
   (h:wpAny (model prog w) A (pyIter it) (λit' s'=>codeAny (model prog w) A (.compLoop (.ListComp elt [⟨tg,iter,ifs,0⟩,⟨lB,bY,fS,0⟩] scope pos) 1 it' acc env) R s')
     (notedBy (model prog w) A env λx s'=>R (.error x) s') s):
   codeAny (model prog w) A (.compStart (.ListComp elt [⟨tg,iter,ifs,0⟩,⟨lB,bY,fS,0⟩] scope pos) 1 it acc env) R s:=by
 refine QP ?_;show wpAny _ _ ((compStart (.ListComp elt [⟨tg,iter,ifs,0⟩,⟨lB,bY,fS,0⟩] scope pos) 1 it acc env).onRaise (λx=>do noteFrame x env;standAt theWindowsPlace)) _ _ s;refine wpAny_notedAt ?_;unfold compStart;show wpAny _ _ (ask >>=_) _ _ s;refine B1 (Jn (wpAny_ite ?_));split
 . first
     | exact B1 (B2 (B2 (And.intro rfl h0)))
     | exact B2 (And.intro rfl h0)
 . first
     | exact B1 (Pl (B1 (Hm (B1 (Fu h (λit' s' h'=>B2 (And.intro rfl h')) λ_ _ x=>x)))))
     | (refine B1 (Pl ?_);show wpAny _ _ (standAt bY.pos >>=_) _ _ s;exact B1 (Hm (B1 (Fu h (λit' s' h'=>B2 (And.intro rfl h')) λ_ _ x=>x))))
end
section
variable {Y:Cx}{lB bY:Expr}{fS:List Expr}{tt:TT}
theorem GX (hc:Y.calm=true)(hg:JG Y lB g)(ht:JF Y fS tt)(he:JE Y elt te)(Xe:Y.xe=F0)
   (I:Inv Y pins σ H s) (T:Turn Y.prog Y.w Y.K lB J fp it tn) (st:tn 0 s.heap) (hf:∀b∈fp,lN Y pins H b)
   (h:fJ J g tt (yu te D) Bb F σ H)
   (hR:∀acc σ' H' s',Inv Y pins σ' H' s'->F acc σ' H'->R (.ok .next) s'):
   codeAny (model Y.prog Y.w) Y.A (.compStart (.ListComp elt [⟨tg,iter,ifs,0⟩,⟨lB,bY,fS,0⟩] scope pos) 1 (.ref it) (.ref D) Y.env) R s:=by
 obtain⟨W,⟨m0,w0⟩,turn⟩:=h;have pF:∀{H':Hp},(∀b∈fp,H' b=none)->∀b∈fp,lN Y pins H' b:=λhn b hb=>by
   obtain⟨f0,f1,f2,f3,f4,f5⟩:=hf b hb;exact⟨hn b hb,f1,f2,f3,f4,f5⟩
 have loop:codeAny (model Y.prog Y.w) Y.A (.compLoop (.ListComp elt [⟨tg,iter,ifs,0⟩,⟨lB,bY,fS,0⟩] scope pos) 1 (.ref it) (.ref D) Y.env) R s:=by
   refine C8 (λn s'=>∃i acc σ' H',Inv Y pins σ' H' s'/\tn i s'.heap/\(∀b∈fp,H' b=none)/\W i n acc σ' H') ?_ m0 ⟨0,_,_,_,I,st,λb hb=>(hf b hb).1,w0⟩;rintro n s3 ⟨i,acc,σ3,H3,I3,st3,fr3,w3⟩;rcases turn i n acc σ3 H3 w3 with ⟨stop,qn⟩ | ⟨go,NN,hNN,step⟩
   . refine bI (T.done Y rfl rfl rfl hc i pins s3 σ3 H3 F0 I3 (pF fr3) st3 stop) λr s4 ⟨hr,I4⟩=>?_;subst hr;exact hR _ _ _ _ I4 qn
   . refine bI (T.item Y rfl rfl rfl hc i pins s3 σ3 H3 F0 I3 (pF fr3) st3 go) λr s4 ⟨u,hr,h4⟩=>?_;subst hr;refine bI h4 λ_ s5 ⟨x,H5,I5,r5,y5,st5,fr5⟩=>?_;have Qt:=I5.pinned (pF fr5) (T.obj _ _ st5);have hgh:=hg.h _ s5 σ3 H5 x u _ Qt r5 (step x H5 y5);rw[Xe]at hgh;refine bI hgh λ_ s6 ⟨σ6,H6,I6,q6⟩=>?_;have hth:=ht.h _ s6 σ6 H6 _ I6 q6;rw[Xe]at hth;refine bI hth λb s7 ⟨H7,I7,q7⟩=>?_;have again:∀{uS:List V}{s8:Shared}{H8:Hp},Inv Y (pins++lO fp s5.heap) σ6 H8 s8->NN uS σ6 H8->∃m,m < n/\∃i acc σ' H',Inv Y pins σ' H' s8/\tn i s8.heap/\(∀b∈fp,H' b=none)/\W i m acc σ' H':=λ{uS s8 H8} I8 w=>by
       obtain⟨m',hm,w8⟩:=hNN _ _ _ w;refine⟨m',hm,i + 1,uS,σ6,H8,I8.gU,T.keep _ _ _ st5 λb hb o e=>(I8.pin (b,o) (cf _ (cf _ (eW hb e)))).1,λb hb=>?_,w8⟩;obtain⟨o,e,d⟩:=T.obj _ _ st5 b hb;exact(I8.pin (b,o) (cf _ (cf _ (eW hb e)))).2.1
     cases b with
     | false=>exact again I7 q7
     | true=>
       have heh:=he.h _ s7 σ6 H7 _ I7 q7;rw[Xe]at heh;refine bI heh λy s8 ⟨v,H8,I8,r8,q8⟩=>?_;obtain⟨hx,hz,w8⟩:=q8;have hmt:=fM (X:=Y) _ s8 σ6 H8 (.ref D) [v] (.ref D) [y] (λ_ H9=>H9=upd H8 D (.lst (acc++[v]))) I8 rfl (.cons r8 .nil) ⟨_,acc,v,rfl,rfl,hx,hz,rfl⟩;rw[Xe]at hmt;refine bI hmt λ_ s9 ⟨_,H9,I9,_,q9⟩=>?_;subst q9;exact again I9 w8
 exact Bc loop (T.self _ 0 _ _ _ st loop)
end
section
variable {N:List Str}{lB bY:Expr}{fS:List Expr}{EI:TI}{g1:TG}{tt EJ:TT}
theorem yv {R:Value->Addr->Result->Shared->Prop}(c:zz X sc N src)(hc:X.calm=true)
   (hg:∀C s H fp,JG (X.comp N sc C s H fp) tg g) (ht:∀C s H fp,JF (X.comp N sc C s H fp) ifs tt)
   (Rf:∀C s H fp,JI (X.comp N sc C s H fp) lB bY EI) (Vg:∀C s H fp,JG (X.comp N sc C s H fp) lB g1) (OP:∀C s H fp,JF (X.comp N sc C s H fp) fS EJ) (he:∀C s H fp,JE (X.comp N sc C s H fp) elt te)
   (Vh:∀C s H fp x,foldedSetIterable bY (X.comp N sc C s H fp).env x=pure x)
   {Q:V->Hp->Prop}(I:Inv X pins σ H s) (T:Turn X.prog X.w X.K tg J fp it tn) (st:tn 0 s.heap) (hf:∀b∈fp,lN X pins H b)
   (h:∀D,L2.new X.K H D->fJ J g tt (sV EI g1 EJ te D) [] (λ_ _ H'=>Q (.ref D) H') (pick σ src) (upd H D (.lst [])))
   (hR:∀D C s' σ' H',s.heap.objs.size<=C->Inv (X.comp N sc C s H fp) [] σ' H' s'->Q (.ref D) H'->R (.ref D) C (.ok .next) s'):
   wpAny (model X.prog X.w) X.A (newList []) (λacc s₃=>wpAny (model X.prog X.w) X.A (newFunctionEnv sc X.env.globals (gX X.env sc.names []) [] X.env.qual none .none (some X.env)) (λcenv s₄=>
     codeAny (model X.prog X.w) X.A (.compStart (.ListComp elt [⟨tg,iter,ifs,0⟩,⟨lB,bY,fS,0⟩] sc pos) 0 (.ref it) acc { cenv with scope:=relabel sc X.env }) (R acc cenv.locals) s₄) E s₃) E s:=by
 refine Kk (wpAny_newFunctionEnv c.cell (by intro y hy;simp at hy) (λh₁ hns₁ hsb₁=>?_) c.kind);dsimp only at hns₁ hsb₁ ⊢;generalize hH2:s.heap.push { cls:=.type "list",dict:=none,data:=.seq ([]:List Value).toArray }=H2 at hns₁ hsb₁ ⊢;have hC:H2.objs.size=s.heap.objs.size + 1:=by rw[<- hH2,eC]
 have Q9:s.heap.objs.size≠H2.objs.size:=by rw[hC];exact cv (i4 _)
 have JL:s.heap.objs.size<=H2.objs.size:=by rw[hC];exact Nat.le_succ _
 have below:∀b,b < s.heap.objs.size->b≠H2.objs.size:=λb hb=>by rw[hC];exact cv (ib hb)
 have old:∀b o,s.heap.get? b=some o->h₁.get? b=some o:=λb o e=>hsb₁.extBut b o (below b (ag e)) (ae _ (hH2 ▸ ae _ e));have Ra:h₁.get? s.heap.objs.size=some { cls:=.type "list",dict:=none,data:=.seq ([]:List Value).toArray }:=hsb₁.extBut _ _ Q9 (ae _ (hH2 ▸ cb _ rfl));have ho:∀b∈fp,∃o,s.heap.get? b=some o:=λb hb=>let ⟨o,e,_⟩:=T.obj _ _ st b hb;⟨o,e⟩;have I0:=I.block (t':=s.toks + ([]:List (Str×Value)).length) c hf ho (ar _) JL Q9 old hns₁ ⟨hU _,[],0,.nil,Ra⟩;have Vb:tn 0 h₁:=T.keep _ _ _ st λb hb o e=>old b o e;obtain⟨W,⟨m0,w0⟩,turn⟩:=h _ I.new;have pF:∀{H':Hp},(∀b∈fp,H' b=none)->∀b∈fp,lN (X.comp N sc H2.objs.size s H fp) [] H' b:=λhn b hb=>by
   obtain⟨f0,f1,f2,f3,f4,f5⟩:=hf b hb;obtain⟨o,e⟩:=ho b hb;refine⟨hn b hb,below b (ag e),λz=>?_,.inl hb,λx a q=>f4 x a (fj q),λp hp=>nomatch hp⟩;rcases List.mem_cons.mp (I.uI b z)with q | q
   . exact f1 q
   . exact f2 q
 have YE:∀b∈fp,(upd H s.heap.objs.size (.lst [])) b=none:=λb hb=>by
   obtain⟨o,e⟩:=ho b hb;rw[au (cv (ag e))];exact(hf b hb).1
 have loop:∀s₃:Shared,s₃={ s with heap:=h₁,toks:=s.toks + ([]:List (Str×Value)).length }->
     codeAny (model X.prog X.w) X.A (.compLoop (.ListComp elt [⟨tg,iter,ifs,0⟩,⟨lB,bY,fS,0⟩] sc pos) 0 (.ref it) (.ref s.heap.objs.size) (compEnvC sc (gX X.env sc.names []) H2.objs.size X.env)) (R (.ref s.heap.objs.size) H2.objs.size) s₃:=by
   rintro s₃ rfl;refine C9 (λn s'=>∃i acc σ' H',Inv (X.comp N sc H2.objs.size s H fp) [] σ' H' s'/\tn i s'.heap/\(∀b∈fp,H' b=none)/\W i n acc σ' H') (Vh H2.objs.size s H fp) ?_ m0 ⟨0,_,_,_,I0,Vb,YE,w0⟩;rintro n s3 ⟨i,acc,σ3,H3,I3,st3,fr3,w3⟩;rcases turn i n acc σ3 H3 w3 with ⟨stop,qn⟩ | ⟨go,NN,hNN,step⟩
   . refine bI (T.done (X.comp N sc H2.objs.size s H fp) rfl rfl rfl hc i [] s3 σ3 H3 F0 I3 (pF fr3) st3 stop) λr s4 ⟨hr,I4⟩=>?_;subst hr;exact hR _ _ _ _ _ JL I4 qn
   . refine bI (T.item (X.comp N sc H2.objs.size s H fp) rfl rfl rfl hc i [] s3 σ3 H3 F0 I3 (pF fr3) st3 go) λr s4 ⟨u,hr,h4⟩=>?_;subst hr;refine bI h4 λ_ s5 ⟨x,H5,I5,r5,y5,st5,fr5⟩=>?_;have Qt:=I5.pinned (pF fr5) (T.obj _ _ st5);refine bI ((hg _ _ _ _).h _ s5 σ3 H5 x u _ Qt r5 (step x H5 y5)) λ_ s6 ⟨σ6,H6,I6,q6⟩=>?_;refine bI ((ht _ _ _ _).h _ s6 σ6 H6 _ I6 q6) λb s7 ⟨H7,I7,q7⟩=>?_;have again:∀{uS:List V}{s8:Shared}{σ8:St}{H8:Hp},Inv (X.comp N sc H2.objs.size s H fp) ([]++lO fp s5.heap) σ8 H8 s8->NN uS σ8 H8->∃m,m < n/\∃i acc σ' H',Inv (X.comp N sc H2.objs.size s H fp) [] σ' H' s8/\tn i s8.heap/\(∀b∈fp,H' b=none)/\W i m acc σ' H':=λ{uS s8 σ8 H8} I8 w=>by
       obtain⟨m',hm,w8⟩:=hNN _ _ _ w;refine⟨m',hm,i + 1,uS,σ8,H8,I8.gU,T.keep _ _ _ st5 λb hb o e=>(I8.pin (b,o) (cf _ (cf _ (eW hb e)))).1,λb hb=>?_,w8⟩;obtain⟨o,e,d⟩:=T.obj _ _ st5 b hb;exact(I8.pin (b,o) (cf _ (cf _ (eW hb e)))).2.1
     cases b with
     | false=>exact again I7 q7
     | true=>
       refine bI ((Rf H2.objs.size s H fp).h ([]++lO fp s5.heap) s7 σ6 H7 _ I7 q7) λv s8 h8=>bI h8 λQp s9 h9=>?_;obtain⟨it9,fp9,tn9,J9,H9,e9,I9,T9,st9,f9,q9⟩:=h9;subst e9;exact GX (Y:=X.comp N sc H2.objs.size s H fp) hc (Vg _ _ _ _) (OP _ _ _ _) (he _ _ _ _) rfl I9 T9 st9 f9 q9 λacc σ' H' s' I' w'=>again I' w'
 exact codeAny_compStart_list (loop _ rfl) (T.self _ 0 _ _ _ Vb (loop _ rfl))
theorem YI (c:zz X sc N src)(hc:X.calm=true)(hi:JI X tg iter wi)
   (hg:∀C s H fp,JG (X.comp N sc C s H fp) tg g) (ht:∀C s H fp,JF (X.comp N sc C s H fp) ifs tt)
   (Rf:∀C s H fp,JI (X.comp N sc C s H fp) lB bY EI) (Vg:∀C s H fp,JG (X.comp N sc C s H fp) lB g1) (OP:∀C s H fp,JF (X.comp N sc C s H fp) fS EJ) (he:∀C s H fp,JE (X.comp N sc C s H fp) elt te)
   (hs:∀x,foldedSetIterable iter X.env x=pure x:=by intro _;rfl) (Vh:∀C s H fp x,foldedSetIterable bY (X.comp N sc C s H fp).env x=pure x:=by intros;rfl):JE X (.ListComp elt [⟨tg,iter,ifs,0⟩,⟨lB,bY,fS,0⟩] sc pos) (Na X.K wi src g tt EI g1 EJ te):=⟨by
 intro pins s σ H Q I h;rw[eval_ListComp];refine Kx (use:=none) rfl hs (gK λx hx hk=>?_) c.kind c.names ?_
 . obtain⟨n,k⟩:=x;cases hk;exact I.ok.has _ (c.free hx)
 refine bI (hi.h pins s σ H _ I h) λv s1 h1=>bI h1 λQp s2 h2=>?_;obtain⟨it,fp,tn,J,H2,e,I2,T,st2,f2,h2⟩:=h2;subst e;refine yv (R:=λacc C=>compPost (model X.prog X.w) X.A X.xe none (EP X pins σ Q) acc C) (Q:=Q) c hc hg ht Rf Vg OP he Vh I2 T st2 f2 h2 λD C s' σ' H' hC I' q=>?_;obtain⟨m,hn,_⟩:=id I'.loc;refine⟨m,hn,λh' sb=>?_⟩;exact⟨.ref D,H',I2.ur f2 hC I' λb hb=>sb.2 b hb,rfl,q⟩⟩
theorem YJ {py JM:Pos}(hN:X.N.Nodup)(hy:X.N[i]?=some y)(hx:Loc X.env.scope y)(c:zz X sc N src)(hc:X.calm=true)(hi:JI X tg iter wi)
   (hg:∀C s H fp,JG (X.comp N sc C s H fp) tg g) (ht:∀C s H fp,JF (X.comp N sc C s H fp) ifs tt)
   (Rf:∀C s H fp,JI (X.comp N sc C s H fp) lB bY EI) (Vg:∀C s H fp,JG (X.comp N sc C s H fp) lB g1) (OP:∀C s H fp,JF (X.comp N sc C s H fp) fS EJ) (he:∀C s H fp,JE (X.comp N sc C s H fp) elt te)
   (YG:swapsWith (.ListComp elt [⟨tg,iter,ifs,0⟩,⟨lB,bY,fS,0⟩] sc pos) (some (.Name y py)) JM.line X.env=pure true:=by rfl)
   (hf:X.fn y=true∨X.env.scope.names.lookup y=some .local:=by first | exact .inl rfl | exact .inr rfl | assumption)
   (hs:∀x,foldedSetIterable iter X.env x=pure x:=by intro _;rfl) (Vh:∀C s H fp x,foldedSetIterable bY (X.comp N sc C s H fp).env x=pure x:=by intros;rfl):JS X (.Assign [.Name y py] (.ListComp elt [⟨tg,iter,ifs,0⟩,⟨lB,bY,fS,0⟩] sc pos) JM) (AJ (Na X.K wi src g tt EI g1 EJ te) (cQ i)):=⟨by
 intro pins s σ H D I h;rw[exec_Assign_Name_used _ _ _ _ YG];refine B1 (Hm (B1 ?_));show wpAny _ X.A (do let _ <- comprehension (.ListComp elt [⟨tg,iter,ifs,0⟩,⟨lB,bY,fS,0⟩] sc pos) sc X.env _ (newList []) false (eval iter X.env) (some (assign (.Name y py) X.env))) _ _ s;refine B1 (Fu (Kx (use:=some (assign (.Name y py) X.env)) (Q:=λ_ s'=>SP X pins D .next s') rfl hs (gK λx hx hk=>?_) c.kind c.names ?_) (λ_ s' hq=>B2 (B2 hq)) λ_ _ e=>e)
 . obtain⟨n,k⟩:=x;cases hk;exact I.ok.has _ (c.free hx)
 refine bI (hi.h pins s σ H _ I h) λv s1 h1=>bI h1 λQp s2 h2=>?_;obtain⟨it,fp,tn,J,H2,e,I2,T,st2,f2,h2⟩:=h2;subst e;refine yv (R:=λacc C=>compPost (model X.prog X.w) X.A X.xe (some (assign (.Name y py) X.env)) (λ_ s'=>SP X pins D .next s') acc C) (Q:=λv H'=>D.nx (σ.set i (some v)) H') c hc hg ht Rf Vg OP he Vh I2 T st2 f2 h2 λL C s' σ' H' hC I' q=>?_;obtain⟨m,hn,_⟩:=id I'.loc;obtain⟨o,es,ep,ho,r⟩:=id hn;have I3:Inv X pins σ H' s':=I2.ur (h':=s'.heap) f2 hC I' λ_ _=>rfl;have cL:C≠X.env.locals:=fi (bp I2.lt hC);have cC:∀x a,X.env.cells.lookup x=some a->a≠C:=λx a e=>by
   obtain⟨v,o,e',_⟩:=I2.cell x a e;exact cv (bp (ag e') hC)
 have cP:∀p∈X.pn++pins,p.1≠C:=λp hp=>cv (bp (ag (I2.pin p hp).1) hC);have fr:H' C=none:=I'.free;have I4:Inv X (pins++[(C,o)]) σ H' s':=I3.ug λp hp=>(da.mp hp).elim (λz=>I3.pin p (cf _ z)) λz=>by
   have e:p=(C,o):=by simpa using z
   subst e;exact⟨ho,fr,cL,I2.P0 hC,λv z=>by
     have r1:=r
     simp_all⟩
 show wpAny (model X.prog X.w) X.A (assign (.Name y py) X.env (.ref L)) _ _ s';refine bI (ze (pos:=py) hN hy hx hf _ s' σ H' (.ref L) (.ref L) (λσ1 H1=>D.nx σ1 H1/\H1=H') I4 rfl ⟨q,rfl⟩) λ_ s5 ⟨σ5,H5,I5,q5,e5⟩=>?_;subst e5;have pC:=(I5.pin (C,o) (cf _ (cf _ RR))).1;refine⟨m,⟨o,es,ep,pC,r⟩,λh' sb=>?_⟩;exact⟨σ5,H5,I5.gU.turned (t':=s5.toks) (λb u hb e=>(sb.2 b hb).trans e) fr cL (.inr (cn I2.sz hC)) cC cP,q5⟩⟩
end
section
variable {K:Frag}{tt:TT}{body:Xd}{a:Addr}
theorem Rg (Pv:Nat->List V->St->Hp->Prop)(h0:Pv 0 Bb σ H)(YH:∀i acc σ H,i < n->Pv i acc σ H->J.go i H)(Cv:∀acc σ H,Pv n acc σ H->J.stop n H)
   (hs:∀i acc σ H x H',i < n->Pv i acc σ H->J.Me i H x H'->g x σ H' λσ2 H2=>tt σ2 H2 λb H3=>if b=true then body acc σ2 H3 (Pv (i + 1)) else Pv (i + 1) acc σ2 H3)
   (hd:∀acc σ H,Pv n acc σ H->F acc σ H):fJ J g tt body Bb F σ H:=by
 refine⟨λi m acc σ H=>Pv i acc σ H/\i<=n/\m=n - i,⟨n,h0,hU _,by omega⟩,λi m acc σ H ⟨h,hi,hm⟩=>?_⟩
 by_cases c:i < n
 . right
   exact⟨YH i acc σ H c h,Pv (i + 1),λacc' σ' H' q=>⟨n - (i + 1),by omega,q,by omega,rfl⟩,λx H' hy=>hs i acc σ H x H' c h hy⟩
 . left
   have e:i=n:=QR
   subst e;exact⟨Cv acc σ H h,hd acc σ H h⟩
theorem uu (Pv:Nat->List V->St->Hp->Prop)(h0:Pv 0 Bb σ H)(hl:∀i acc σ H,i<=xs.length->Pv i acc σ H->aR K H a xs)
   (hs:∀i x acc σ H,xs[i]?=some x->Pv i acc σ H->g x σ H λσ2 H2=>tt σ2 H2 λb H3=>if b=true then body acc σ2 H3 (Pv (i + 1)) else Pv (i + 1) acc σ2 H3)
   (hd:∀acc σ H,Pv xs.length acc σ H->F acc σ H):fJ (sQ K a) g tt body Bb F σ H:=by
 refine Rg (n:=xs.length) Pv h0 (λi acc σ H hi h=>⟨xs,_,hl i acc σ H (fg hi) h,a9 hi⟩) (λacc σ H h=>⟨xs,hl _ acc σ H (ar _) h,ar _⟩) (λi acc σ H x H' hi h hy=>?_) hd;obtain⟨rfl,hy⟩:=hy;exact hs i x acc σ _ (hy xs (hl i acc σ _ (fg hi) h)) h
theorem GY {EI:TI}{g1:TG}{EJ:TT}:Na K (qh K tl) src g tt EI g1 EJ te σ H Q=tl σ H (λx H1=>∃a,x=.ref a/\(∃xs,aR K H1 a xs)/\∀D,L2.new K H1 D->fJ (sQ K a) g tt (sV EI g1 EJ te D) [] (λ_ _ H'=>Q (.ref D) H') (pick σ src) (upd H1 D (.lst []))):=rfl
theorem Hf :sV (Qq K tl) g tt te D acc σ H N=tl σ H (λx H1=>∃a,x=.ref a/\(∃xs,wK K H1 a xs)/\fJ (W4 K a) g tt (yu te D) acc N σ H1):=rfl
theorem Dc :sV (qh K tl) g tt te D acc σ H N=tl σ H (λx H1=>∃a,x=.ref a/\(∃xs,aR K H1 a xs)/\fJ (sQ K a) g tt (yu te D) acc N σ H1):=rfl
theorem Kc :yu te D acc σ H N=te σ H (λv H4=>H4 D=some (.lst acc)/\acc.length < sizeLine/\N (acc++[v]) σ (upd H4 D (.lst (acc++[v])))):=rfl
end
theorem uV:∀{ns:List Int}{us:List Value},Vals (ns.map V.int) us->IntsAre us ns
 | [],us,h=>by cases h;exact .nil
 | n::ns,us,h=>by
   cases h with
   | cons r rr=>
     obtain⟨t,rfl⟩:=r;exact .cons n t (uV rr)
theorem yw {us:List Value}{ns:List Int}(h:IntsAre us ns):Vals (ns.map V.int) us:=yh h
theorem EK (h:Vals xs us):∀{i:Nat}{u:Value},us[i]?=some u->∃x,xs[i]?=some x/\RelV x u:=by
 induction h with
 | nil=>intro i u e;simp at e
 | cons r rr ih=>
   intro i u e;cases i with
   | zero=>simp only[List.getElem?_cons_zero,Option.some.injEq]at e ⊢;exact⟨_,rfl,e ▸ r⟩
   | succ i=>simp only[List.getElem?_cons_succ]at e ⊢;exact ih e
theorem range_all {bs:List Bool}:(List.range bs.length).all (λi=>bs.getD i true)=bs.all id:=by
 induction bs with
 | nil=>rfl
 | cons b bs ih=>
   rw[List.length_cons,List.range_succ_eq_map,List.all_cons,pd,List.all_cons];have e:((λi=>(b::bs).getD i true) ∘ Nat.succ)=λi=>bs.getD i true:=by funext i;simp
   rw[e,ih];rfl
theorem Bd {bs:List Bool}(r:Vals (bs.map V.bl) us):TruthOf P w A (λi v=>us.toArray[i]?=some v) (λi=>bs.getD i true):=by
 intro i v s Q E hv hQ;rw[me]at hv;obtain⟨x,hx,rx⟩:=EK r hv;rw[bb]at hx;obtain⟨b,hb,rfl⟩:=bj.mp hx;cases rx;have e:bs.getD i true=b:=by rw[px,hb];rfl
 dsimp only at hQ;rw[e]at hQ;exact Hc hQ
theorem kept_iter {l:Addr}(hk:∀b o,b∉[s.heap.objs.size]->(s.heap.push { cls:=.type "list_iterator",data:=.fields #[.ref l,.int 0 0] }).get? b=some o->h'.get? b=some o):∀b o,s.heap.get? b=some o->h'.get? b=some o:=λb o e=>by
 refine hk b o (λm=>?_) (ae _ e);have q:b=s.heap.objs.size:=by simpa using m
 exact fw _ (q ▸ ag e)
theorem cB (hc:X.calm=true):ef X (.builtin "all") (λxs H Q=>∃(p:Addr) (bs:List Bool),xs=[.ref p]/\aR X.K H p (bs.map V.bl)/\Q (.bl (bs.all id)) H):=by
 intro pins s σ H xs us Q I r h;obtain⟨p,bs,rfl,hx,q⟩:=h;obtain⟨u,rfl,ru⟩:=vals1 r;cases ru;obtain⟨bu,rv,ht,hz⟩:=I.list hx;have hl:s.heap.IsList p bu.toArray:=ht.isList;have jg:p < s.heap.objs.size:=by obtain⟨_,e,_⟩:=hl;exact ag e
 refine call_all_walk (Iy hl ?_);refine⟨_,_,_,_,_,_,λi=>bs.getD i true,rfl,Walks.list (A:=X.A.in1) (I.ok.hd hc) _ p (cv jg) bu.toArray,⟨⟨_,cb _ rfl,rfl,rfl⟩,hl.push _⟩,Bd rv,λh' tk hk=>?_⟩;have el:bu.toArray.size=bs.length:=by rw[cp,<- rv.length,ab]
 rw[el,range_all];exact⟨.bl _,H,I.kept (kept_iter hk),rfl,q⟩
section
variable {b0:Array Keyed}
end
def Hg (K:Frag)(t:TA):TE:=λσ H Q=>t σ H λvs H1=>∃(p:Addr) (ns:List Int),vs=[.ref p]/\aR K H1 p (ns.map V.int)/\ns.Pairwise (·≥·)/\∀D,L2.new K H1 D->Q (.ref D) (upd H1 D (.lst (ns.map V.int)))
def uW (xs:Array Nat):Prop:=xs.toList.Pairwise (· < ·)
structure iz (t:SetTable):Prop where
 bare:t.dummies=#[]
 rise:uW t.place
section
variable {xs:Array Nat}
theorem uW.lt (h:uW xs){k:Nat}(ik:i < k)(hk:k < xs.size):xs.getD i j < xs.getD k j:=by
 have hi:i < xs.size:=Nat.lt_trans ik hk;rw[eQ,eQ,cq hi,cq hk];have q:=mN.mp h i k (by simpa using hi) (by simpa using hk) ik;simpa using q
theorem Ke (h:uW xs)(hm:xs.getD m j < j)(hi:i<=m):xs.getD i j < j:=by
 by_cases c:m < xs.size
 . by_cases e:i=m
   . rw[e];exact hm
   . have:=h.lt (j:=j) (show i < m by omega) c;omega
 . rw[eQ,ka QR]at hm;exact absurd hm (fw _)
theorem Nb (h:uW xs)(hm:¬ xs.getD m j < j)(hi:m<=i):¬ xs.getD i j < j:=λc=>hm (Ke h c hi)
theorem uX (h:uW xs):∀fuel lo hi,lo<=hi->hi<=xs.size->hi - lo<=fuel->(∀i,i < lo->xs.getD i j < j)->(∀i,hi<=i->¬ xs.getD i j < j)->
   SetTable.below.go xs j fuel lo hi<=xs.size/\(∀i,i < SetTable.below.go xs j fuel lo hi->xs.getD i j < j)/\∀i,SetTable.below.go xs j fuel lo hi<=i->¬ xs.getD i j < j
 | 0,lo,hi,h1,h2,h3,h4,h5=>by
   have e:lo=hi:=QR
   unfold SetTable.below.go;exact⟨by omega,h4,λi fF=>h5 i QR⟩
 | fuel + 1,lo,hi,h1,h2,h3,h4,h5=>by
   unfold SetTable.below.go
   by_cases c:lo < hi
   . rw[Fh c];dsimp only
     by_cases d:xs.getD ((lo + hi) / 2) j < j
     . rw[Fh d];exact uX h fuel _ _ QR h2 QR (λi fF=>Ke h d QR) h5
     . rw[Ee d];exact uX h fuel _ _ QR QR QR h4 (λi fF=>Nb h d fF)
   . rw[Ee c];exact⟨by omega,h4,λi fF=>h5 i QR⟩
theorem uY (h:uW xs)(j:Nat):SetTable.below xs j<=xs.size/\(∀i,i < SetTable.below xs j->xs.getD i j < j)/\∀i,SetTable.below xs j<=i->¬ xs.getD i j < j:=by
 unfold SetTable.below;refine uX h _ _ _ (hU _) (ar _) QR (λi hi=>absurd hi (Nat.not_lt_zero _)) (λi hi=>?_);rw[eQ,ka hi];exact fw _
theorem uW.insert (h:uW xs)(free:xs[SetTable.below xs j]?≠some j):uW (SetTable.insertAt xs (SetTable.below xs j) j):=by
 obtain⟨b1,b2,b3⟩:=uY h j;generalize SetTable.below xs j=p at *;have at_:∀i (hi:i < xs.size),xs.getD i j=xs.toList[i]'(by simpa using hi):=λi hi=>by
   rw[eQ,cq hi];simp
 unfold uW SetTable.insertAt;rw[Array.toList_append,tj,Array.toList_extract,Array.toList_extract];simp only[List.extract_eq_drop_take,Nat.sub_zero,List.drop_zero];have e1:List.take (xs.size - p) (List.drop p xs.toList)=xs.toList.drop p:=tq (by rw[i5];simp);rw[e1,km];refine nz.mpr ⟨h.sublist (tf _ _),?_,?_⟩
 . refine nz.mpr ⟨Bi _ _,h.sublist (List.drop_sublist _ _),λa ha c hc=>?_⟩;have ea:a=j:=by simpa using ha
   subst ea;obtain⟨i,hi,rfl⟩:=fv.mp hc;rw[i5]at hi;rw[xn];have jg:p + i < xs.size:=by simp at hi;omega
   have q:=b3 (p + i) QR;rw[at_ _ jg]at q
   by_cases z:i=0
   . subst z;have ne:xs.toList[p + 0]'(by simpa using jg)≠a:=λe=>free (by
       rw[cq (by simpa using jg)];simpa using e)
     omega
   . have hp:p < xs.size:=QR
     have q0:=b3 p (ar _);have q1:=h.lt (j:=a) (show p < p + i by omega) jg;rw[at_ _ jg]at q1;omega
 . intro a ha c hc;obtain⟨i,hi,rfl⟩:=fv.mp ha;rw[fb]at hi;rw[List.getElem_take];have jg:i < xs.size:=by simp at hi;omega
   have qa:=b2 i QR;rw[at_ _ jg]at qa;rcases da.mp hc with z | z
   . have e:c=j:=by simpa using z
     rw[e];exact qa
   . obtain⟨k,hk,rfl⟩:=fv.mp z;rw[i5]at hk;rw[xn];exact mN.mp h i (p + k) _ _ QR
end
theorem has_none (j:Nat):SetTable.has #[] j=false:=by simp[SetTable.has]
theorem iz.slot {t:SetTable}(h:iz t)(e:t.slot j=.empty):t.place[SetTable.below t.place j]?≠some j:=by
 intro c;unfold SetTable.slot at e;simp only[c,Fn,Md]at e;cases e
theorem uZ {t:SetTable}(h:iz t){f:Nat->Int}{x:Int}:∀(fuel:Nat) (p:SetTable.Probe) {j:Nat}{d:Option Nat},p.dummy=none->SetTable.probe.go t f x fuel p=some (.empty j d)->d=none/\t.slot j=.empty
 | 0,p,j,d,hp,e=>by unfold SetTable.probe.go at e;cases e
 | fuel + 1,p,j,d,hp,e=>by
   unfold SetTable.probe.go at e;have adv:(t.advance p).dummy=none:=by unfold SetTable.advance;split <;> exact hp
   cases c:t.slot p.j with
   | empty=>
     rw[c]at e;dsimp only at e;cases e;exact⟨hp,c⟩
   | dummy=>
     exfalso
     unfold SetTable.slot at c;dsimp only at c;split at c
     . cases c
     . rw[h.bare,has_none]at c;simp at c
   | live i=>
     rw[c]at e;dsimp only at e;split at e
     . cases e
     . exact uZ h fuel _ adv e
theorem iz.standIn {t:SetTable}(n:Nat):iz (t.standIn n):=⟨rfl,by
 show(Array.range n).toList.Pairwise (· < ·);rw[Array.toList_range];exact List.pairwise_lt_range⟩
theorem iz.orStandIn {t:SetTable}(h:iz t)(n:Nat):iz (t.orStandIn n):=by
 unfold SetTable.orStandIn;split
 . exact h
 . exact .standIn n
theorem iz.put {t:SetTable}(h:iz t)(e:t.slot j=.empty):iz (t.put j).1:=⟨by
 show(if SetTable.has t.dummies j then _ else t.dummies)=#[];rw[h.bare,has_none];rfl,h.rise.insert (h.slot e)⟩
theorem Dd {t:SetTable}(h:iz t)(es:Array (Int×Value))(hv:Int)(x:Value):iz (layNew t es hv x).2.1/\(layNew t es hv x).2.1.led=t.led:=by
 unfold layNew;cases c:t.freeSlot hv with
 | none=>exact⟨.standIn _,rfl⟩
 | some q=>
   obtain⟨sl,wd⟩:=q;have free:t.slot sl=.empty:=by
     unfold SetTable.freeSlot at c;split at c
     . next j d e=>
       unfold SetTable.probe at e;obtain⟨rfl,z⟩:=uZ h _ _ rfl e;simp only[y0,Option.isSome_none,Option.some.injEq,Prod.mk.injEq]at c;rw[<- c.1];exact z
     . cases c
   dsimp only;refine⟨(h.put free).orStandIn _,?_⟩;unfold SetTable.orStandIn;split
   . rfl
   . rfl
theorem yz (f:Nat->Option Nat):∀l:List Nat,l.Pairwise (· < ·)->((l.filterMap λj=>(f j).map (j,·)).map (·.1)).Pairwise (· < ·)/\∀a∈(l.filterMap λj=>(f j).map (j,·)).map (·.1),a∈l
 | [],_=>⟨List.Pairwise.nil,λa h=>nomatch h⟩
 | j::l,h=>by
   obtain⟨i1,i2⟩:=yz f l (List.pairwise_cons.mp h).2;cases c:f j with
   | none=>
     rw[rg (by rw[c];rfl)];exact⟨i1,λa ha=>cx _ (i2 a ha)⟩
   | some k=>
     rw[rh (b:=(j,k)) (by rw[c];rfl)];refine⟨List.pairwise_cons.mpr ⟨λa ha=>(List.pairwise_cons.mp h).1 a (i2 a ha),i1⟩,λa ha=>?_⟩;rcases List.mem_cons.mp ha with z | z
     . exact z ▸ dq
     . exact cx _ (i2 a z)
theorem zD {t:SetTable}(es:Array (Int×Value))(n:Nat):iz (relayAll t es n).2.1/\(relayAll t es n).2.1.led=t.led:=by
 unfold relayAll;cases c:t.relaid (es.map (·.1)) n with
 | none=>exact⟨.standIn _,rfl⟩
 | some q=>
   obtain⟨t',order⟩:=q;dsimp only;split
   . unfold SetTable.relaid SetTable.laid at c;cases d:SetTable.layClean (SetTable.sizeAbove n - 1) (es.map (·.1)) with
     | none=>rw[d]at c;cases c
     | some owner=>
       rw[d]at c;simp only[Option.bind_eq_bind,Option.bind_some,Option.pure_def,Option.some.injEq,Prod.mk.injEq]at c;rw[<- c.1];refine⟨⟨rfl,?_⟩,rfl⟩;exact(yz (λj=>owner.getD j none) _ List.pairwise_lt_range).1
   . exact⟨.standIn _,rfl⟩
def qz (es:Array (Int×Value)):List Int:=es.toList.map λe=>numOf e.2
structure EL (P:Program)(w:World)(h:Heap)(a:Addr)(L:Bool)(M:Int->Prop)(n:Nat)(es:Array (Int×Value))(ep:Nat)(t:SetTable):Prop where
 at_:∃o,h.get? a=some o/\o.ExactSet/\o.data=.set es ep t
 elems:ElemsOf (intKind P w) es.toList
 nd:(qz es).Nodup
 mem:∀k,k∈qz es↔M k
 len:es.size<=n
 fits:t.fits es.size=true
 tab:iz t
 led:t.led=L
def oJ (P:Program)(w:World)(h:Heap)(a:Addr)(L:Bool)(M:Int->Prop)(n:Nat):Prop:=∃es ep t,EL P w h a L M n es ep t
theorem oJ.keep {a:Addr}(q:oJ P w h a L M n)(k:∀o,h.get? a=some o->h'.get? a=some o):oJ P w h' a L M n:=by
 obtain⟨es,ep,t,x⟩:=q;obtain⟨o,h1,h2⟩:=x.at_;exact⟨es,ep,t,⟨⟨o,k o h1,h2⟩,x.elems,x.nd,x.mem,x.len,x.fits,x.tab,x.led⟩⟩
theorem De {k:Int}{v:Value}(h:(intKind P w).is k v=true):numOf v=k/\∃t,v=.int k t:=by
 obtain⟨t,rfl⟩:=Value.isInt_shape h;exact⟨rfl,t,rfl⟩
theorem u5 {a:Addr}{o:Obj}{YK es:Array (Int×Value)}{t0 t:SetTable}(ho:h.get? a=some o)(hx:o.ExactSet)(hd:o.data=.set YK ep t0):
   ∃o',(h.update a (Obj.putSet es t)).get? a=some o'/\o'.ExactSet/\o'.data=.set es (ep + 1) t:=by
 refine⟨{ o with data:=.set es (ep + 1) t },?_,hx,rfl⟩;have g:=gN (Obj.putSet es t) ho (by rw[putSet_of es t hd];rfl)
 rwa [putSet_of es t hd]at g
theorem EM {g:Bool->Sem Unit}(hg:∀(b:Bool) (s1:Shared) (R:Unit->Shared->Prop),R () s1->wpAny (model P w) A (g b) R E s1){a:Addr}{o:Obj}{YK es:Array (Int×Value)}{t0 t:SetTable}{wd:Bool}{R:Option Bool->Shared->Prop}
   (ho:s.heap.get? a=some o) (hx:o.ExactSet) (hd:o.data=.set YK ep t0) (h1:ElemsOf (intKind P w) es.toList) (h2:(qz es).Nodup) (h3:∀k,k∈qz es↔M k) (h4:es.size<=n) (h5:t.fits es.size=true) (h6:iz t) (h7:t.led=L) (hn:n < scanBound)
   (q:∀h',Heap.SameBut a s.heap h'->oJ P w h' a L M n->R (some true) { s with heap:=h' }):
   wpAny (model P w) A (do
     storeSet a es t
     if (!wd&&t.tooFull)=true then do
       g (relayAll t es (SetTable.grown es.size)).2.2
       storeSet a (relayAll t es (SetTable.grown es.size)).1 (relayAll t es (SetTable.grown es.size)).2.1
       pure (some true)
     else pure (some true)) R E s:=by
 refine B1 (wpAny_storeSet_of ho hd ?_ (fits_of_scanBound (dt h4 hn)));obtain⟨o1,g1,x1,d1⟩:=u5 (es:=es) (t:=t) ho hx hd;have sb:=vT s.heap a (Obj.putSet es t);split
 . have pm:=relayAll_perm t es (SetTable.grown es.size);have ft:=relayAll_fits t es (SetTable.grown es.size);obtain⟨tb,ld⟩:=zD (t:=t) es (SetTable.grown es.size);generalize relayAll t es (SetTable.grown es.size)=W at pm ft tb ld ⊢;have kp:(qz W.1).Perm (qz es):=pm.map _;have sz:W.1.size=es.size:=by rw[<- dC,pm.length_eq,dC]
   refine B1 (hg _ _ _ ?_);refine B1 (wpAny_storeSet_of g1 d1 ?_ (fits_of_scanBound QR));obtain⟨o2,g2,x2,d2⟩:=u5 (es:=W.1) (t:=W.2.1) g1 x1 d1;exact B2 (q _ (sb.trans (vT _ a _)) ⟨W.1,_,W.2.1,⟨⟨o2,g2,x2,d2⟩,h1.perm pm,kp.nodup_iff.mpr h2,λk=>kp.mem_iff.trans (h3 k),by omega,ft,tb,ld.trans h7⟩⟩)
 . exact B2 (q _ sb ⟨es,_,t,⟨⟨o1,g1,x1,d1⟩,h1,h2,h3,h4,h5,h6,h7⟩⟩)
theorem add_int {a:Addr}{k:Int}{tk:Tok}{R:Bool->Shared->Prop}(h:oJ P w s.heap a L M n)(hn:n + 1 < scanBound)
   (q:∀h' b,Heap.SameBut a s.heap h'->oJ P w h' a L (λj=>M j∨j=k) (n + 1)->R b { s with heap:=h' }):wpAny (model P w) A (setAddHashed a (.int k tk) (hashInt k)) R E s:=by
 obtain⟨es,ep,t,x⟩:=h;obtain⟨o,ho,hx,hd⟩:=x.at_;have lt:es.size < scanBound:=dt x.len QR;unfold setAddHashed setAddHashedIn;refine Fs (B1 (IH ho hd x.fits ?_));dsimp only;rw[byScan_of (knd:=intKind P w) (x:=.int k tk) rfl lt x.elems];simp only[↓reduceIte];unfold setAddByScan;refine B1 (B1 (Pl (B1 (wpAny_setScan_of (intKind_is P w k tk) ho hd x.fits x.elems ?_))));cases c:es.toList.findIdx? (λe=>(intKind P w).is k e.2) with
 | some i=>
   obtain⟨hi,p,_⟩:=List.findIdx?_eq_some_iff_getElem.mp c;have there:M k:=(x.mem k).mp (gs.mpr ⟨_,ph hi,(De p).1⟩);exact B2 (B2 (q s.heap false (Heap.SameBut.refl a s.heap) ⟨es,ep,t,⟨⟨o,ho,hx,hd⟩,x.elems,x.nd,λj=>(x.mem j).trans ⟨.inl,λz=>z.elim id λe=>e ▸ there⟩,Nat.le_succ_of_le x.len,x.fits,x.tab,x.led⟩⟩))
 | none=>
   have fresh:k∉qz es:=λm=>by
     obtain⟨e,he,ek⟩:=gs.mp m;have no:=List.findIdx?_eq_none_iff.mp c e he;obtain⟨⟨k',Cg,_⟩,_⟩:=x.elems e he;rw[(De Cg).1]at ek;subst ek;rw[Cg]at no;cases no
   have Df:∀(b:Bool) {s1:Shared}{R':Unit->Shared->Prop},R' () s1->wpAny (model P w) A (match b with | true=>rule "set.scan.the-table-gave-way" | false=>pure ()) R' E s1:=λb {s1 R'} z=>by
     cases b with
     | true=>exact Pl z
     | false=>exact B2 z
   have pm:=layNew_perm t es (hashInt k) (.int k tk);have ft:=layNew_fits t es (hashInt k) (.int k tk);obtain⟨tb,ld⟩:=Dd x.tab es (hashInt k) (.int k tk);dsimp only;generalize layNew t es (hashInt k) (.int k tk)=W at pm ft tb ld ⊢;obtain⟨es1,t1,wd,gv⟩:=W;dsimp only at pm ft tb ld ⊢;rw[tj]at pm;have e1:ElemsOf (intKind P w) es1.toList:=(x.elems.push (intKind_is P w k tk) rfl).perm pm;have kp:(qz es1).Perm (qz es++[k]):=by
     have z:=pm.map λe=>numOf e.2
     rwa [bo]at z
   have n1:(qz es1).Nodup:=kp.nodup_iff.mpr (oP.mpr ⟨x.nd,by simp,λa ha b hb=>by
     have e:b=k:=by simpa using hb
     subst e;exactλz=>fresh (z ▸ ha)⟩)
   have m1:∀j,j∈qz es1↔(M j∨j=k):=λj=>by
     rw[kp.mem_iff,da,x.mem j];simp
   have s1:es1.size<=n + 1:=by
     rw[<- dC,pm.length_eq,ax,dC];exact Nat.succ_le_succ x.len
   refine B1 (Df _ ?_);have Vi:t1.led=L:=ld.trans x.led;split
   . refine B1 ?_;rw[hashByValue_scannable 8 (x:=.int k tk) rfl];refine B2 ?_;refine EM ?_ ho hx hd e1 n1 m1 s1 ft tb Vi hn λh' z1 z2=>?_
     . intro b s2 R' z;exact Df b z
     . exact B2 (q h' true z1 z2)
   . refine B1 (B2 ?_);refine EM ?_ ho hx hd e1 n1 m1 s1 ft tb Vi hn λh' z1 z2=>?_
     . intro b s2 R' z;exact Df b z
     . exact B2 (q h' true z1 z2)
theorem oJ.to {a:Addr}{M':Int->Prop}{n':Nat}(q:oJ P w h a L M n)(e:∀k,M k↔M' k)(le:n<=n'):oJ P w h a L M' n':=by
 obtain⟨es,ep,t,x⟩:=q;exact⟨es,ep,t,⟨x.at_,x.elems,x.nd,λk=>(x.mem k).trans (e k),cn x.len le,x.fits,x.tab,x.led⟩⟩
section
variable {I:Addr}{wr:List Addr}{G:Array GenState->Array GenState->Prop}{Pv:Nat->Value->Prop}{St:Nat->Shared->Prop}
theorem Be (W:WalksS P w A.in1 I fp wr G n Pv St)(out:S∉fp)(val:Nat->Int)(nums:∀i v,Pv i v->∃t,v=.int (val i) t)(jw:n + 1 < scanBound):
   ∀(d i:Nat) (s:Shared),n - i=d->i<=n->St i s->oJ P w s.heap S L (λj=>∃m,m < i/\j=val m) i->
     (∀s',Moved (S::wr) G s s'->oJ P w s'.heap S L (λj=>∃m,m < n/\j=val m) n->R (.ok (.ret .none)) s')->
     codeAny (model P w) A (.builtin "set.update.loop" ⟨[.ref S,.ref I],[]⟩) R s
 | 0,i,s,hd,hi,st,hS,hR=>by
   have e:i=n:=QR
   subst e;refine HI rp ?_;rw[ma mB _];show wpAny _ A.in1 (pyNext (.ref I) >>=_) _ _ s;refine B1 (W.done s _ _ st λs1 mv=>B2 (hR s1 (mv.mono λb hb=>cx _ hb) (hS.keep λo=>mv.heap S o λz=>out (W.sub _ z))))
 | d + 1,i,s,hd,hi,st,hS,hR=>by
   have lt:i < n:=QR
   refine HI rp ?_;rw[ma mB _];show wpAny _ A.in1 (pyNext (.ref I) >>=_) _ _ s;refine B1 (W.item i s _ _ lt st λv s1 pv st1 mv=>?_);obtain⟨t,rfl⟩:=nums i v pv;have hS1:=hS.keep λo=>mv.heap S o λz=>out (W.sub _ z);show wpAny _ A.in1 (holding [Value.int (val i) t] (setAdd S (.int (val i) t)) >>=_) _ _ s1;refine B1 (Fs ?_);unfold setAdd;refine Fs (B1 ((intKind P w).pyHash (k:=val i) (intKind_is _ _ _ _) ?_));refine add_int (s:={ s1 with toks:=s1.toks + 1 }) hS1 QR λh2 b sb hS2=>?_;have same:∀b o,b≠S->s1.heap.get? b=some o->h2.get? b=some o:=λb o z e=>(sb.2 b z).trans e;refine B2 ⟨Mo mB _,Be W out val nums jw d (i + 1) _ QR lt (W.frame _ s1 _ _ st1 (Nat.le_succ _) λb hb o e=>same b o (λz=>out (z ▸ hb)) e) (hS2.to (λk=>?_) (ar _)) λs2 mv2 hS3=>hR s2 ?_ hS3⟩
   . constructor
     . rintro(⟨m,hm,e⟩ | e)
       . exact⟨m,by omega,e⟩
       . exact⟨i,by omega,e⟩
     . rintro⟨m,hm,e⟩
       by_cases c:m=i
       . exact .inr (c ▸ e)
       . exact .inl ⟨m,by omega,e⟩
   . refine Moved.trans W.gtrans ((mv.mono λb hb=>cx _ hb).then_heap (Nat.le_succ _) λb o hb e=>same b o (λz=>hb (z ▸ dq)) e) mv2
end
abbrev fN (w:World):Bool:=!w.params.followText "set-order"
theorem Kf (v:Value){R:Value->Shared->Prop}(h:R (.ref s.heap.objs.size) { s with heap:=s.heap.push { cls:=.type "set",dict:=none,data:=.set #[] 0 (.fresh 0 0 (fN w)) } }):
   codeAny (model P w) A (.call (.builtin "set.__new__") ⟨[.type "set",v],[]⟩) (wants R E) s:=by
 refine QP ?_;show wpAny _ A.in1 (do checkBuiltinCall "set.__new__" ⟨[.type "set",v],[]⟩;again (.builtin "set.__new__" ⟨[.type "set",v],[]⟩)) _ _ s;refine B1 (wpAny_of_eq (PySem.F.newCall_set_1 v) (B2 ⟨Mo PySem.F.plain_set_new _,HI PySem.F.entry_set_new ?_⟩));rw[ma PySem.F.plain_set_new _];unfold Builtin.«set.__new__» Builtin.Frozenset.newClass;have sub:=PySem.sub_set_self;obtain⟨hp,g,d,tk,os⟩:=s;dsimp only
 wp_walk
 refine Jn (B2 ?_);dsimp only;simp only[newObj];exact B1 (wpAny_alloc (B2 (B2 h)))
theorem Hh {a:Addr}(g:h.get? a=some { cls:=.type "set",dict:=none,data:=.set #[] 0 (.fresh 0 0 (fN w)) }):oJ P w h a (fN w) (λ_=>False) 0:=
 ⟨#[],0,_,⟨⟨_,g,⟨rfl,rfl,rfl⟩,rfl⟩,λe he=>by simp at he,List.Pairwise.nil,λk=>⟨λz=>by simp[qz]at z,False.elim⟩,ar _,by simp[SetTable.fits,SetTable.fresh,SetTable.fill],⟨rfl,List.Pairwise.nil⟩,rfl⟩⟩
theorem Kg {j:Int}:(∃m,m < ns.length/\j=ns.getD m 0)↔j∈ns:=by
 constructor
 . rintro⟨m,hm,rfl⟩;rw[px,a9 hm];exact ph hm
 . intro z;obtain⟨m,hm,rfl⟩:=fv.mp z;exact⟨m,hm,by rw[px,a9 hm];rfl⟩
set_option maxHeartbeats 3200000 in
theorem Hi {l:Addr}{items:Array Value}{R:Value->Shared->Prop}(calm:A.handled=none)(hl:s.heap.IsList l items)(hi:IntsAre items.toList ns)(jw:items.size + 1 < scanBound)
   (q:∀(h':Heap) (tk:Nat),oJ P w h' s.heap.objs.size (fN w) (·∈ns) ns.length->(∀b o,s.heap.get? b=some o->h'.get? b=some o)->R (.ref s.heap.objs.size) { s with heap:=h',toks:=tk }):
   wpAny (model P w) A (call (.type "set") [.ref l]) R E s:=by
 have len:items.size=ns.length:=by rw[<- hi.nums,ab,dC]
 obtain⟨c0,c1,mro⟩:=PySem.F.called_set.mro;have made:=PySem.F.called_set.made;have subs:=PySem.F.called_set.sub;refine wpAny_call (QP ?_);show wpAny _ _ (callAny (.type "set") _) _ _ _;refine B2 ⟨Code.quiet_builtin _ Q1,HI PySem.F.entry_type_call ?_⟩;rw[Around.under_plain (weight_type_call_type "set" [.ref l] []) rfl];have k1:=PySem.F.called_set.notType;have k2:=PySem.F.called_set.canCreate;have k3:=PySem.F.typeCall_set_1 (.ref l)
 repeat (any_goals (first | assumption | wp_step))
 refine Kt (Kf (P:=P) (.ref l) (E:=E) (R:=λu s1=>u=.ref s.heap.objs.size/\s1={ s with heap:=s.heap.push { cls:=.type "set",dict:=none,data:=.set #[] 0 (.fresh 0 0 (fN w)) } }) ⟨rfl,rfl⟩) λr s1 hr=>?_;cases r with
 | error e=>exact hr
 | ok fl=>
   cases fl with
   | ret u=>
     obtain⟨rfl,rfl⟩:=hr;have gS:(s.heap.push { cls:=.type "set",dict:=none,data:=.set #[] 0 (.fresh 0 0 (fN w)) }).get? s.heap.objs.size=some { cls:=.type "set",dict:=none,data:=.set #[] 0 (.fresh 0 0 (fN w)) }:=cb _ rfl;have tS:Shared.TypeIs { s with heap:=s.heap.push { cls:=.type "set",dict:=none,data:=.set #[] 0 (.fresh 0 0 (fN w)) } } (.ref s.heap.objs.size) "set":=⟨_,gS,rfl⟩
     have i1:=PySem.F.called_set.init.lookup;have i2:=PySem.F.called_set.init.bind (.ref s.heap.objs.size)
     repeat (any_goals (first | assumption | wp_step))
     refine Kt (codeAny_call_builtin (R:=wants (λr s2=>r=.none/\∃h' tk,s2={ s with heap:=h',toks:=tk }/\oJ P w h' s.heap.objs.size (fN w) (·∈ns) ns.length/\∀b o,s.heap.get? b=some o->h'.get? b=some o) E) PySem.F.called_set.init.plain PySem.F.entry_set_init (check_set_init_1 tS ?_)) λr2 s2 OQ=>?_
     . obtain⟨ol,gl,cl,nl,dl⟩:=hl;obtain⟨ocls,odict,odata,oslots⟩:=ol;simp only at cl dl;subst cl;subst dl;have gl':(s.heap.push { cls:=.type "set",dict:=none,data:=.set #[] 0 (.fresh 0 0 (fN w)) }).get? l=some { cls:=.type "list",dict:=odict,data:=.seq items nl,slots:=oslots }:=ae _ gl;have n1:=PySem.F.sub_list_set;have n2:=PySem.F.sub_list_frozenset;have n3:(Value.type "list"==Value.type "dict")=false:=RF
       have lq:(s.heap.push { cls:=.type "set",dict:=none,data:=.set #[] 0 (.fresh 0 0 (fN w)) }).IsList l items:=⟨_,gl',rfl,nl,rfl⟩
       unfold Builtin.«set.__init__» noKeywords Builtin.Frozenset.updateFrom;generalize hP:pyIter=PI
       wp_walk
       subst hP;refine Iy lq (B1 (wpAny_runValue ?_));have lS:l < s.heap.objs.size:=ag gl;have Vj:A.in1.in1.in1.handled=none:=by simp[calm]
       have YL:(s.heap.push { cls:=.type "set",dict:=none,data:=.set #[] 0 (.fresh 0 0 (fN w)) }).objs.size=s.heap.objs.size + 1:=eC ..;have lI:l≠(s.heap.push { cls:=.type "set",dict:=none,data:=.set #[] 0 (.fresh 0 0 (fN w)) }).objs.size:=by rw[YL];exact cv (ib lS)
       have nS:s.heap.objs.size∉[(s.heap.push { cls:=.type "set",dict:=none,data:=.set #[] 0 (.fresh 0 0 (fN w)) }).objs.size,l]:=by
         rw[YL];simp only[List.mem_cons,List.not_mem_nil,Fm,He];exact⟨cv (i4 _),fi lS⟩
       refine Be (L:=fN w) ((Walks.list Vj _ l lI items).toS) nS (λi=>ns.getD i 0) (λi v hv=>IntsAre.int_at hi i v (by rw[ui];exact hv)) jw (items.size - 0) 0 _ QR (hU _) ⟨⟨_,cb _ rfl,rfl,rfl⟩,lq.push _⟩ ?_ ?_
       . refine(Hh (P:=P) (ae _ gS)).to (λk=>⟨False.elim,?_⟩) (ar _);rintro⟨m,hm,_⟩;exact absurd hm (Nat.not_lt_zero _)
       . intro s3 mv hS;obtain⟨h3,g3,d3,tk3,os3⟩:=s3;have e1:g3=s.gens:=mv.gens;have e2:d3=s.drawn:=mv.drawn;have e3:os3=s.os:=mv.os;subst e1;subst e2;subst e3;refine B2 (B2 ⟨rfl,h3,tk3,rfl,hS.to (λk=>by rw[len];exact Kg) (xv len),λb o e=>?_⟩);have lt:b < s.heap.objs.size:=ag e;refine mv.heap b o ?_ (ae _ (ae _ e));rw[YL];simp only[List.mem_cons,List.not_mem_nil,Fm,He];exact⟨cv lt,cv (ib lt)⟩
     . cases r2 with
       | error e=>exact OQ
       | ok fl2=>
         cases fl2 with
         | ret r=>
           obtain⟨rfl,h',tk,rfl,hS,hk⟩:=OQ
           repeat (any_goals (first | assumption | wp_step))
           exact q _ _ hS hk
         | next=>exact OQ.elim
         | brk=>exact OQ.elim
         | cont=>exact OQ.elim
   | next=>exact hr.elim
   | brk=>exact hr.elim
   | cont=>exact hr.elim
theorem bS:Slot "set_iterator" "__next__" "set_iterator.__next__":=
 .of (owner:="set_iterator") (n:="__next__") (by rw[Oy,Ki];kernel_rfl) Q1 Q1 Q1 (by first | exact .inl Q1 | exact .inr Q1) (by rw[isSubtype_type];kernel_rfl)
theorem qA:Slot "set_iterator" "__iter__" "set_iterator.__iter__":=
 .of (owner:="set_iterator") (n:="__iter__") (by rw[Oy,Ki];kernel_rfl) Q1 Q1 Q1 (by first | exact .inl Q1 | exact .inr Q1) (by rw[isSubtype_type];kernel_rfl)
theorem gO:entryFor table "set_iterator.__next__"=some Builtin.«set_iterator.__next__»:=entryFor_of_tree (by kernel_rfl)
theorem iG (a:Value):argsOk "set_iterator.__next__" ⟨[a],[]⟩:=by unfold argsOk;kernel_rfl
theorem zE:entryFor table "set.__iter__"=some Builtin.«frozenset.__iter__»:=entryFor_alias (id':="frozenset.__iter__") (by kernel_rfl) rfl Q1 (by kernel_rfl)
theorem wV:entryFor table "set_iterator.__iter__"=some Builtin.«dict_keyiterator.__iter__»:=entryFor_alias (id':="dict_keyiterator.__iter__") (by kernel_rfl) rfl Q1 (by kernel_rfl)
theorem zF (a:Value):argsOk "set_iterator.__iter__" ⟨[a],[]⟩:=by unfold argsOk;kernel_rfl
def oQ (h:Heap)(it S:Addr)(f:Value)(i n ep:Nat):Prop:=h.get? it=some { cls:=.type "set_iterator",dict:=none,data:=.fields #[f,.int i 0,.ref S,.int n 0,.int ep 0],slots:=#[] }
def lz (h:Heap)(S:Addr)(es:Array (Int×Value))(ep:Nat)(t:SetTable):Prop:=∃o,h.get? S=some o/\o.data=.set es ep t
section
variable {es:Array (Int×Value)}{t:SetTable}{R:Option Value->Shared->Prop}
theorem iV (hS:lz s.heap S es ep t)(ft:t.fits es.size=true){Q:Array (Int×Value)->Shared->Prop}(q:Q es s):wpAny (model P w) A (setEntries S) Q E s:=by
 obtain⟨o,h1,h2⟩:=hS;unfold setEntries;exact B1 (IH h1 h2 ft (B2 q))
theorem nG {vs:Array Value}{o:Obj}(h:s.heap.get? it=some o)(d:o.data=.fields vs){Q:Array Value->Shared->Prop}(q:Q vs s):wpAny (model P w) A (fieldsOf (.ref it)) Q E s:=by
 unfold fieldsOf;refine B1 (wpAny_load h ?_);rw[d];exact B2 q
theorem sW {s1:Shared}{F:Fin->Shared->Prop}(calm:A.handled=none)(q:∀h',(∀b o,s1.heap.get? b=some o->h'.get? b=some o)->R none { s1 with heap:=h' }):
   wpAny (model P w) A.in1 (newExc (.type "StopIteration") [] >>=λx=>raiseNew x) F (λe s'=>wpAny (model P w) A (do let __do_lift <- isInstance e (.type "StopIteration");if __do_lift=true then pure none else throw e) R E s') s1:=by
 refine B1 ?_;simp only[newExc,newTuple];refine B1 (Kk (B1 (m:=firstArgMember _ _) (wpAny_of_eq (a:=Value.none) (by first | rfl | (simp only[firstArgMember];rfl)) (Kk ?_ (by size_fits)))) (by size_fits));refine wpAny_raiseNew_none (show A.in1.handled=none from calm) ?_;refine B1 (P2 (T:="StopIteration") (b:=true) ⟨_,cb _ rfl,rfl⟩ isSubtype_stop ?_);exact B2 (q _ λb o e=>ae _ (ae _ e))
theorem Hj {sl nx:Nat}{x:Value}(hit:oQ s.heap it S (.int sl 0) i n ep)(hS:lz s.heap S es ep t)(ft:t.fits es.size=true)(hn:es.size=n)
   (step:∀(Q:Option (Value×Nat)->Shared->Prop) (E:Value->Shared->Prop),Q (some (x,nx)) s->wpAny (model P w) A.in1 (setNext S sl i ep) Q E s)
   (q:∀h',oQ h' it S (.int nx 0) (i + 1) n ep->Heap.SameBut it s.heap h'->R (some x) { s with heap:=h' }):wpAny (model P w) A (pyNext (.ref it)) R E s:=by
 have ty:s.TypeIs (.ref it) "set_iterator":=⟨_,hit,rfl⟩
 unfold pyNext;refine B1 (Nw (Hn (name:=Str.ofString "__next__") ty bS (Hk bS ty gO ?_ (iG _))));unfold Builtin.«set_iterator.__next__»;refine B1 (m:=slotArgs "__next__" 0 _) (B2 ?_);refine B1 (nG hit rfl ?_);dsimp only;refine B1 (iV hS ft ?_);rw[hn,Ee RR];simp only[hV];refine B1 (step _ _ ?_);refine B1 (Hb hit RR λh1 g1 b1=>?_);refine B1 (Hb (s:={ s with heap:=h1 }) g1 RR λh2 g2 b2=>?_);exact B2 ⟨x,rfl,B2 (q h2 g2 (b1.trans b2))⟩
theorem Hl {sl:Nat}(calm:A.handled=none)(hit:oQ s.heap it S (.int sl 0) i n ep)(hS:lz s.heap S es ep t)(ft:t.fits es.size=true)(hn:es.size=n)
   (step:∀(Q:Option (Value×Nat)->Shared->Prop) (E:Value->Shared->Prop),Q none s->wpAny (model P w) A.in1 (setNext S sl i ep) Q E s)
   (q:∀h',Heap.ExtBut it s.heap h'->R none { s with heap:=h' }):wpAny (model P w) A (pyNext (.ref it)) R E s:=by
 have ty:s.TypeIs (.ref it) "set_iterator":=⟨_,hit,rfl⟩
 unfold pyNext;refine B1 (Nw (Hn (name:=Str.ofString "__next__") ty bS (Hk bS ty gO ?_ (iG _))));unfold Builtin.«set_iterator.__next__»;refine B1 (m:=slotArgs "__next__" 0 _) (B2 ?_);refine B1 (nG hit rfl ?_);dsimp only;refine B1 (iV hS ft ?_);rw[hn,Ee RR];simp only[hV];refine B1 (step _ _ ?_);refine B1 (Hb hit RR λh1 g1 b1=>?_);exact sW (s1:={ s with heap:=h1 }) calm λh2 k=>q h2 λb o ne e=>k b o (b1.extBut b o ne e)
theorem Ho {ps:Array Value}{k:Nat}{hv:Int}{x:Value}(hit:oQ s.heap it S (.ref T) i n ep)(hS:lz s.heap S es ep t)(ft:t.fits es.size=true)(hn:es.size=n)
   (hT:∃o m,s.heap.get? T=some o/\o.data=.seq ps m) (hp:ps[i]?=some (.int k 0)) (hx:es[k]?=some (hv,x))
   (q:∀h',oQ h' it S (.ref T) (i + 1) n ep->Heap.SameBut it s.heap h'->R (some x) { s with heap:=h' }):wpAny (model P w) A (pyNext (.ref it)) R E s:=by
 have ty:s.TypeIs (.ref it) "set_iterator":=⟨_,hit,rfl⟩
 obtain⟨oT,mT,gT,dT⟩:=hT;unfold pyNext;refine B1 (Nw (Hn (name:=Str.ofString "__next__") ty bS (Hk bS ty gO ?_ (iG _))));unfold Builtin.«set_iterator.__next__»;refine B1 (m:=slotArgs "__next__" 0 _) (B2 ?_);refine B1 (nG hit rfl ?_);dsimp only;refine B1 (iV hS ft ?_);rw[hn,Ee RR];simp only[hV];refine B1 (Hd gT dT ?_);dsimp only;rw[hp];dsimp only;obtain⟨oS,gS,dS⟩:=hS;unfold setNextDrawn;refine B1 (B1 (IH gS dS ft ?_));dsimp only;rw[Ee RR,hV,hx];refine B2 (B1 (Hb hit RR λh1 g1 b1=>?_));exact B2 ⟨x,rfl,B2 (q h1 g1 b1)⟩
theorem Hq {ps:Array Value}(calm:A.handled=none)(hit:oQ s.heap it S (.ref T) i n ep)(hS:lz s.heap S es ep t)(ft:t.fits es.size=true)(hn:es.size=n)
   (hT:∃o m,s.heap.get? T=some o/\o.data=.seq ps m) (hp:ps[i]?=none)
   (q:∀h',Heap.ExtBut it s.heap h'->R none { s with heap:=h' }):wpAny (model P w) A (pyNext (.ref it)) R E s:=by
 have ty:s.TypeIs (.ref it) "set_iterator":=⟨_,hit,rfl⟩
 obtain⟨oT,mT,gT,dT⟩:=hT;unfold pyNext;refine B1 (Nw (Hn (name:=Str.ofString "__next__") ty bS (Hk bS ty gO ?_ (iG _))));unfold Builtin.«set_iterator.__next__»;refine B1 (m:=slotArgs "__next__" 0 _) (B2 ?_);refine B1 (nG hit rfl ?_);dsimp only;refine B1 (iV hS ft ?_);rw[hn,Ee RR];simp only[hV];refine B1 (Hd gT dT ?_);dsimp only;rw[hp];dsimp only;refine B1 (Hb hit RR λh1 g1 b1=>?_);refine B1 (Hb (s:={ s with heap:=h1 }) g1 RR λh2 g2 b2=>?_);exact sW (s1:={ s with heap:=h2 }) calm λh3 k=>q h3 λb o ne e=>k b o ((b1.trans b2).extBut b o ne e)
theorem yC {sl:Nat}(tx:w.params.followText "set-order"=true)(hS:lz s.heap S es ep t)(ft:t.fits es.size=true)(Q:Option (Value×Nat)->Shared->Prop)
   (q:Q (((pickOrder (w.params.setOrder S ep) es)[i]?).map λe=>(e.2,sl)) s):wpAny (model P w) A (setNext S sl i ep) Q E s:=by
 obtain⟨o,g,d⟩:=hS;unfold setNext;refine B1 (IH g d ft ?_);dsimp only;refine B1 (m:=setsByText) (B1 (Jn (B2 ?_)));rw[Fh (show(model P w).w.params.followText "set-order"=true from tx),Ee RR];unfold setWalk;refine B1 (B1 (IH g d ft ?_));dsimp only;refine B1 (m:=setsByText) (B1 (Jn (B2 ?_)));rw[Fh (show(model P w).w.params.followText "set-order"=true from tx)];exact B1 (Jn (B2 (B2 q)))
theorem Bf {sl:Nat}(tx:w.params.followText "set-order"=false)(pl:(!t.plain&&decide (es.size > 1))=false)(led:t.led=true)(hS:lz s.heap S es ep t)(ft:t.fits es.size=true)(Q:Option (Value×Nat)->Shared->Prop)
   (q:Q (match es[SetTable.below t.place sl]?,t.place[SetTable.below t.place sl]? with | some (_,x),some j=>some (x,j + 1) | _,_=>none) s):wpAny (model P w) A (setNext S sl i ep) Q E s:=by
 obtain⟨o,g,d⟩:=hS;unfold setNext;refine B1 (IH g d ft ?_);dsimp only;refine B1 (m:=setsByText) (B1 (Jn (B2 ?_)));rw[Ee (show ¬ (model P w).w.params.followText "set-order"=true by rw[show(model P w).w.params.followText "set-order"=false from tx];decide)];split
 . next c=>exact absurd (show(!t.plain&&decide (es.size > 1))=true from c) (by rw[pl];decide)
 refine B1 ?_;show wpAny _ _ (if (!t.led&&!es.isEmpty)=true then unsupported _ else pure ()) _ _ _;rw[led,Ee RR];exact B2 (B2 q)
end
section
variable {es:Array (Int×Value)}{t:SetTable}
theorem lz.keep (x:lz h S es ep t)(k:∀o,h.get? S=some o->h'.get? S=some o):lz h' S es ep t:=by
 obtain⟨o,g,d⟩:=x;exact⟨o,k o g,d⟩
theorem EN {f:Value}{Q:Value->Shared->Prop}(hit:oQ s.heap it S f i n ep)(q:Q (.ref it) s):wpAny (model P w) A (pyIter (.ref it)) Q E s:=by
 have ty:s.TypeIs (.ref it) "set_iterator":=⟨_,hit,rfl⟩
 refine wpAny_pyIter_slot ty qA (Hk qA ty wV ?_ (zF _));show wpAny _ _ (ret (.ref it)) _ _ s;exact B2 ⟨_,rfl,"set_iterator",_,ty,bS.lookup,q⟩
theorem Kh (calm:A.handled=none)(ne:it≠S)(ft:t.fits es.size=true)(vals:Array Value)(len:vals.size=es.size)(sl:Nat->Nat)
   (step:∀(i:Nat) (x:Value) (s:Shared) (Q:Option (Value×Nat)->Shared->Prop) (E:Value->Shared->Prop),vals[i]?=some x->lz s.heap S es ep t->Q (some (x,sl (i + 1))) s->wpAny (model P w) A.in1 (setNext S (sl i) i ep) Q E s)
   (last:∀(s:Shared) (Q:Option (Value×Nat)->Shared->Prop) (E:Value->Shared->Prop),lz s.heap S es ep t->Q none s->wpAny (model P w) A.in1 (setNext S (sl vals.size) vals.size ep) Q E s):
   Walks P w A it [it,S] [it] vals.size (λi v=>vals[i]?=some v) (λi h=>oQ h it S (.int (sl i) 0) i es.size ep/\lz h S es ep t) where
 sub:=λb hb=>by simp at hb;simp[hb]
 frame:=λi h h' st k=>⟨k it RR _ st.1,st.2.keep λo=>k S RR o⟩
 item:=λi s Q E hi st q=>by
   have e:vals[i]?=some vals[i]:=cq hi;refine Hj st.1 st.2 ft rfl (λQ' E' q'=>step i _ s Q' E' e st.2 q') λh' g b=>?_;exact q _ h' s.toks e ⟨g,st.2.keep λo=>b.extBut S o (Ne.symm ne)⟩ λc o hc=>b.extBut c o (by simpa using hc)
 done:=λs Q E st q=>by
   refine Hl calm st.1 st.2 ft rfl (λQ' E' q'=>last s Q' E' st.2 q') λh' b=>?_;exact q h' s.toks λc o hc=>b c o (by simpa using hc)
 self:=λi s Q E st q=>EN st.1 q
theorem Hr (calm:A.handled=none)(ne:it≠S)(neT:it≠T)(ft:t.fits es.size=true)(ps:List Nat)(len:ps.length=es.size)(lt:∀k∈ps,k < es.size):
   Walks P w A it [it,S,T] [it] ps.length (λi v=>((ps.map λk=>(es.getD k (0,.none)).2).toArray)[i]?=some v) (λi h=>oQ h it S (.ref T) i es.size ep/\lz h S es ep t/\∃o m,h.get? T=some o/\o.data=.seq ((ps.map λk=>Value.int (k:Nat) 0).toArray) m) where
 sub:=λb hb=>by simp at hb;simp[hb]
 frame:=λi h h' st k=>⟨k it RR _ st.1,st.2.1.keep λo=>k S RR o,let ⟨o,m,g,d⟩:=st.2.2;⟨o,m,k T RR _ g,d⟩⟩
 item:=λi s Q E hi st q=>by
   have e:ps[i]?=some ps[i]:=a9 hi;have lk:=lt _ (ph hi);have ee:es[ps[i]]?=some (es[ps[i]].1,es[ps[i]].2):=cq lk;refine Ho (k:=ps[i]) st.1 st.2.1 ft rfl st.2.2 (by rw[me,bb,e];rfl) ee λh' g b=>?_;refine q _ h' s.toks ?_ ⟨g,st.2.1.keep λo=>b.extBut S o (Ne.symm ne),let ⟨o,m,g,d⟩:=st.2.2;⟨o,m,b.extBut T o (Ne.symm neT) g,d⟩⟩ λc o hc=>b.extBut c o (by simpa using hc);rw[me,bb,e,Option.map_some,eQ,cq lk];rfl
 done:=λs Q E st q=>by
   refine Hq calm st.1 st.2.1 ft rfl st.2.2 (by rw[me,bb,uj (ar _)];rfl) λh' b=>?_;exact q h' s.toks λc o hc=>b c o (by simpa using hc)
 self:=λi s Q E st q=>EN st.1 q
end
theorem pL {α:Type}:∀(l:List α) (i:Nat) (h:i < l.length),(l[i]::l.eraseIdx i).Perm l
 | a::l,0,_=>List.Perm.refl _
 | a::l,i + 1,h=>by
   have hi:i < l.length:=by simpa using h
   have ih:=pL l i hi;show(l[i]::a::l.eraseIdx i).Perm (a::l);exact(List.Perm.swap _ _ _).trans (List.Perm.cons a ih)
theorem yD {α:Type}(nx:Nat->Nat):∀(fuel k:Nat) (left:List α) (out:Array α),fuel=left.length->(pickOrder.go nx fuel k left out).toList.Perm (out.toList++left)
 | 0,k,left,out,h=>by
   have e:left=[]:=ot.mp h.symm;subst e;unfold pickOrder.go;simp
 | fuel + 1,k,left,out,h=>by
   have lt:nx k % left.length < left.length:=Nat.mod_lt _ QR;unfold pickOrder.go;rw[a9 lt];dsimp only;refine(yD nx fuel (k + 1) _ _ (by rw[xi lt];omega)).trans ?_;rw[tj,km];exact List.Perm.append_left _ (pL _ _ lt)
theorem l6 (nx:Nat->Nat)(xs:Array α):(pickOrder nx xs).toList.Perm xs.toList:=by
 have h:=yD nx xs.size 0 xs.toList #[] RR;simpa[pickOrder] using h
theorem yE {P:Program}{w:World}{A:Around}{E:Value->Shared->Prop}{α:Type}:∀(n:Nat) (xs:List α) (s:Shared) (Q:List α->Shared->Prop),n=xs.length->(∀ys d,ys.Perm xs->Q ys { s with drawn:=d })->wpAny (model P w) A (drawOrder n xs) Q E s
 | 0,xs,s,Q,h,q=>by
   have e:xs=[]:=ot.mp h.symm;subst e;exact B2 (q [] s.drawn (List.Perm.refl _))
 | n + 1,[],s,Q,h,q=>by simp at h
 | n + 1,x::xs,s,Q,h,q=>by
   unfold drawOrder;refine B1 ?_;have ch:∀(R:Nat->Shared->Prop),(∀i d,i < (x::xs).length->R i { s with drawn:=d })->wpAny (model P w) A (choose .order (x::xs).length) R E s:=λR hR Γ p hΓ=>by
     refine⟨by simp,?_⟩;exact hR _ _ (Nat.mod_lt _ RR)
   refine ch _ λi d hi=>?_;rw[a9 hi];dsimp only;refine B1 (yE n _ _ _ (by rw[xi hi];simp at h ⊢;omega) λys d2 p=>B2 (q _ _ ?_));exact(List.Perm.cons _ p).trans (pL _ _ hi)
structure Nc (P:Program)(w:World)(A:Around)(s s':Shared)(S it:Addr)(fp:List Addr)(vals:Array Value)(St:Nat->Heap->Prop):Prop where
 walk:Walks P w A it fp [it] vals.size (λi v=>vals[i]?=some v) St
 st:St 0 s'.heap
 below:∀b∈fp,b < s'.heap.objs.size
 new:∀b∈fp,b=S∨s.heap.objs.size<=b
 old:s.heap.objs.size<=it
 gens:s'.gens=s.gens
 os:s'.os=s.os
 keep:∀b o,s.heap.get? b=some o->s'.heap.get? b=some o
section
variable {es:Array (Int×Value)}{t:SetTable}
theorem Bg (x:EL P w s.heap S L M n es ep t):∀i,i<=es.size->SetTable.below t.place (if i=0 then 0 else t.place.getD (i - 1) 0 + 1)=i:=λi hi=>by
 have sz:t.place.size=es.size:=by
   have:=x.fits;simp only[SetTable.fits,cm,Pt]at this;exact this.1
 obtain⟨b1,b2,b3⟩:=uY x.tab.rise (if i=0 then 0 else t.place.getD (i - 1) 0 + 1);generalize hj:(if i=0 then 0 else t.place.getD (i - 1) 0 + 1)=j at *;generalize SetTable.below t.place j=p at *;have dflt:∀k a b,k < t.place.size->t.place.getD k a=t.place.getD k b:=λk a b hk=>by
   rw[eQ,eQ,cq hk];rfl
 by_cases c:p < i
 . exfalso
   have h1:=b3 p (ar _);rw[Ee QR]at hj;have h2:t.place.getD p j<=t.place.getD (i - 1) j:=by
     by_cases e:p=i - 1
     . rw[e];exact ar _
     . exact fg (x.tab.rise.lt QR QR)
   rw[dflt (i - 1) j 0 QR]at h2;omega
 . by_cases d:i < p
   . exfalso
     have h1:=b2 i d
     by_cases z:i=0
     . rw[Fh z]at hj;omega
     . rw[Ee z]at hj;have lt:i < t.place.size:=QR
       have h2:=x.tab.rise.lt (j:=j) (show i - 1 < i by omega) lt;rw[dflt (i - 1) j 0 QR]at h2;omega
   . omega
theorem Kl (calm:A.handled=none)(x:EL P w s.heap S (fN w) M n es ep t)(jw:es.size<=sizeLine){R:Value->Shared->Prop}
   (q:∀it fp (vals:Array Value) St s',Nc P w A s s' S it fp vals St->vals.toList.Perm (es.toList.map (·.2))->it∈fp->R (.ref it) s'):wpAny (model P w) A (pyIter (.ref S)) R E s:=by
 obtain⟨o,g,ex,d⟩:=x.at_;have ty:s.TypeIs (.ref S) "set":=⟨o,g,ex.1⟩
 have Rh:S < s.heap.objs.size:=ag g;have hS:lz s.heap S es ep t:=⟨o,g,d⟩
 refine wpAny_pyIter_slot ty PySem.F.slot_set_iter (Hk PySem.F.slot_set_iter ty zE ?_ (PySem.F.args_set_iter_1 _));unfold Builtin.«frozenset.__iter__» Builtin.Frozenset.slot0 Builtin.Frozenset.sizeOf;refine B1 (B1 (m:=slotArgs "__iter__" 0 _) (B2 ?_));refine B2 (B1 (B1 (iV hS x.fits (B2 ?_))));have made:∀(f:Value) (s1:Shared) (F:Fin->Shared->Prop),lz s1.heap S es ep t->(∀it s2,s2={ s1 with heap:=s1.heap.push { cls:=.type "set_iterator",dict:=none,data:=.fields #[f,.int 0 0,.ref S,.int es.size 0,.int ep 0],slots:=#[] } }->it=s1.heap.objs.size->oQ s2.heap it S f 0 es.size ep->F (.done (.ret (.ref it))) s2)->
     wpAny (model P w) A.in1 (do let e <- setEpoch S;let v <- newFields "set_iterator" [f,rawInt 0,.ref S,rawInt es.size,rawInt e];ret v) F E s1:=λf s1 F h1 h2=>by
   obtain⟨o1,g1,d1⟩:=h1;refine B1 (wpAny_setEpoch_of g1 d1 x.fits (B1 (Kk ?_ (by size_fits))));exact B2 (h2 _ _ rfl rfl (cb _ rfl))
 have sz:t.place.size=es.size:=by
   have:=x.fits;simp only[SetTable.fits,cm,Pt]at this;exact this.1
 have Bh:∀(vals:Array Value) (sl:Nat->Nat),vals.size=es.size->sl 0=0->vals.toList.Perm (es.toList.map (·.2))->
     (∀(i:Nat) (x:Value) (s:Shared) (Q:Option (Value×Nat)->Shared->Prop) (E:Value->Shared->Prop),vals[i]?=some x->lz s.heap S es ep t->Q (some (x,sl (i + 1))) s->wpAny (model P w) A.in1 (setNext S (sl i) i ep) Q E s)->
     (∀(s:Shared) (Q:Option (Value×Nat)->Shared->Prop) (E:Value->Shared->Prop),lz s.heap S es ep t->Q none s->wpAny (model P w) A.in1 (setNext S (sl vals.size) vals.size ep) Q E s)->
     wpAny (model P w) A.in1 (do let f <- pure (rawInt 0);let e <- setEpoch S;let v <- newFields "set_iterator" [f,rawInt 0,.ref S,rawInt es.size,rawInt e];ret v)
       (λfin s'=>∃v,fin=.done (.ret v)/\∃T' r,s'.TypeIs v T'/\typeLookup (.type T') (Str.ofString "__next__")=pure (some r)/\R v s') E s:=λvals sl len h0 pm step last=>by
   refine B1 (B2 (made _ s _ hS λit s2 e2 e1 si=>?_));subst e2 e1;refine⟨_,rfl,"set_iterator",_,⟨_,si,rfl⟩,bS.lookup,q _ [s.heap.objs.size,S] vals _ _ ⟨Kh calm (fi Rh) x.fits vals len sl step last,⟨by rw[h0];exact si,hS.keep λo=>ae _⟩,λb hb=>?_,λb hb=>?_,ar _,rfl,rfl,λb o=>ae _⟩ pm RR⟩
   rotate_left
   . simp only[List.mem_cons,List.not_mem_nil,Fm]at hb;rcases hb with rfl | rfl
     . exact .inr (ar _)
     . exact .inl rfl
   show b < (s.heap.push _).objs.size;rw[eC];simp only[List.mem_cons,List.not_mem_nil,Fm]at hb;rcases hb with rfl | rfl
   . exact i4 _
   . exact ib Rh
 unfold setDrawn;refine B1 (B1 (IH g d x.fits ?_));dsimp only;refine B1 (m:=setsByText) (B1 (Jn (B2 (B2 ?_))));cases tx:w.params.followText "set-order" with
 | true=>
   rw[Ee (by rw[show(model P w).w.params.followText "set-order"=true from tx];simp)];refine Bh ((pickOrder (w.params.setOrder S ep) es).map (·.2)) (λ_=>0) ?_ rfl ?_ ?_ ?_
   . rw[BM,<- dC,(l6 _ es).length_eq,dC]
   . rw[Array.toList_map];exact(l6 _ es).map _
   . intro i v s1 Q' E' hv h1 q';refine yC tx h1 x.fits Q' ?_;rw[Array.getElem?_map]at hv;obtain⟨e,he,rfl⟩:=bj.mp hv;rw[he];exact q'
   . intro s1 Q' E' h1 q';refine yC tx h1 x.fits Q' ?_;rw[ka (by rw[BM];exact ar _)];exact q'
 | false=>
   have led:t.led=true:=by rw[x.led,fN,tx];rfl
   by_cases pl:(!t.plain&&decide (es.size > 1))=true
   . rw[Fh (by rw[show(model P w).w.params.followText "set-order"=false from tx];exact pl)];refine B1 (yE es.size (List.range es.size) s _ RR λys dd pm=>?_);have lY:ys.length=es.size:=by rw[pm.length_eq,List.length_range]
     have ltY:∀k∈ys,k < es.size:=λk hk=>List.mem_range.mp (pm.mem_iff.mp hk);refine B1 (PH ?_ (by rw[ab,lY];exact jw));refine made _ _ _ (hS.keep λo=>ae _) λit s2 e2 e1 si=>?_;subst e2 e1;have SO:(s.heap.push { cls:=.type "tuple",data:=.seq ((ys.map λk=>rawInt (k:Nat)).toArray) }).objs.size=s.heap.objs.size + 1:=eC ..;have it1:(s.heap.push { cls:=.type "tuple",data:=.seq ((ys.map λk=>rawInt (k:Nat)).toArray) }).objs.size≠S:=by rw[SO];exact fi (ib Rh)
     have it2:(s.heap.push { cls:=.type "tuple",data:=.seq ((ys.map λk=>rawInt (k:Nat)).toArray) }).objs.size≠s.heap.objs.size:=by rw[SO];exact fi (i4 _)
     have W:=Hr (P:=P) (w:=w) (A:=A) (ep:=ep) calm it1 it2 x.fits ys lY ltY;have len:((ys.map λk=>(es.getD k (0,.none)).2).toArray).size=ys.length:=RR
     rw[<- len]at W;refine⟨_,rfl,"set_iterator",_,⟨_,si,rfl⟩,bS.lookup,q _ _ _ _ _ ⟨W,⟨si,hS.keep λo z=>ae _ (ae _ z),_,_,ae _ (cb _ rfl),rfl⟩,λb hb=>?_,λb hb=>?_,by rw[SO];exact Nat.le_succ _,rfl,rfl,λb o z=>ae _ (ae _ z)⟩ ?_ RR⟩
     . show b < ((s.heap.push _).push _).objs.size;rw[eC];simp only[List.mem_cons,List.not_mem_nil,Fm]at hb;rcases hb with rfl | rfl | rfl
       . exact i4 _
       . rw[SO];exact ib (ib Rh)
       . rw[SO];exact ib (i4 _)
     . simp only[List.mem_cons,List.not_mem_nil,Fm]at hb;rcases hb with rfl | rfl | rfl
       . exact .inr (by rw[SO];exact Nat.le_succ _)
       . exact .inl rfl
       . exact .inr (ar _)
     . have e:(List.range es.size).map (λk=>(es.getD k (0,.none)).2)=es.toList.map (·.2):=by
         apply List.ext_getElem
         . simp
         . intro i h1 h2;simp only[ab,List.length_range]at h1;simp[Array.getD,h1]
       show(ys.map λk=>(es.getD k (0,.none)).2).Perm _;rw[<- e];exact pm.map _
   . rw[Ee (by rw[show(model P w).w.params.followText "set-order"=false from tx];exact pl)];have pl':(!t.plain&&decide (es.size > 1))=false:=by simpa using pl
     refine Bh (es.map (·.2)) (λi=>if i=0 then 0 else t.place.getD (i - 1) 0 + 1) RR rfl (by rw[Array.toList_map]) ?_ ?_
     . intro i v s1 Q' E' hv h1 q';refine Bf tx pl' led h1 x.fits Q' ?_;rw[Array.getElem?_map]at hv;obtain⟨e,he,rfl⟩:=bj.mp hv;have lt:i < es.size:=(Array.getElem?_eq_some_iff.mp he).1;rw[Bg x i QR,he,cq QR];have e1:t.place.getD (i + 1 - 1) 0=t.place[i]'QR:=by
         rw[Nat.add_sub_cancel,eQ,cq QR];rfl
       dsimp only at q' ⊢;rw[Ee (Nat.succ_ne_zero i),e1]at q';exact q'
     . intro s1 Q' E' h1 q';refine Bf tx pl' led h1 x.fits Q' ?_;rw[BM,Bg x es.size (ar _),ka (ar _)];exact q'
end
theorem Bj:typeLookup (.type "set") "__len__"=pure (some (.builtin "set.__len__")):=by rw[Oy,Ki];kernel_rfl
theorem Nd {es:Array (Int×Value)}(h:ElemsOf (intKind P w) es.toList)(pm:us.Perm (es.toList.map (·.2))):IntsAre us (us.map numOf)/\(us.map numOf).Perm (qz es):=by
 refine⟨intsAre_map us λv hv=>?_,?_⟩
 . obtain⟨e,he,rfl⟩:=gs.mp (pm.mem_iff.mp hv);obtain⟨⟨k,hk,_⟩,_⟩:=h e he;obtain⟨_,t,z⟩:=De hk;exact⟨k,t,z⟩
 . have z:=pm.map numOf
   rwa [dn]at z
theorem Bk (calm:A.handled=none)(h:oJ P w s.heap S (fN w) M n)(jw:n<=1000){Q:List Value->Shared->Prop}
   (q:∀(us:List Value) (ks:List Int) (s':Shared),IntsAre us ks->ks.Nodup->(∀k,k∈ks↔M k)->ks.length<=n->s'.gens=s.gens->s'.os=s.os->(∀b o,s.heap.get? b=some o->s'.heap.get? b=some o)->s.heap.objs.size<=s'.heap.objs.size->Q us s'):
   wpAny (model P w) A (collect (.ref S)) Q E s:=by
 obtain⟨es,ep,t,x⟩:=h;obtain⟨o,g,ex,d⟩:=x.at_;have Rh:S < s.heap.objs.size:=ag g;have line:n<=sizeLine:=cn jw RF;unfold collect;refine B1 (wpAny_runValue (HI PySem.F.entry_proto_collect ?_));rw[ma PySem.F.plain_proto_collect _];show wpAny _ A.in1 (newList [] >>=λl=>again (.builtin "list.__iadd__" ⟨[l,.ref S],[]⟩)) _ _ s;refine B1 (Kk (B2 ⟨Mo PySem.F.plain_list_iadd _,HI PySem.F.entry_list_iadd ?_⟩));rw[ma PySem.F.plain_list_iadd _];have gD:(s.heap.push { cls:=.type "list",data:=.seq ([]:List Value).toArray }).get? s.heap.objs.size=some { cls:=.type "list",data:=.seq ([]:List Value).toArray }:=cb _ rfl;have x1:EL P w (s.heap.push { cls:=.type "list",data:=.seq ([]:List Value).toArray }) S (fN w) M n es ep t:=⟨⟨o,ae _ g,ex,d⟩,x.elems,x.nd,x.mem,x.len,x.fits,x.tab,x.led⟩
 have szD:(s.heap.push { cls:=.type "list",data:=.seq ([]:List Value).toArray }).objs.size=s.heap.objs.size + 1:=eC ..;show wpAny _ A.in1 (Builtin.List.listExtendWith (.ref s.heap.objs.size) (.ref S) (.ref s.heap.objs.size)) _ _ { s with heap:=s.heap.push { cls:=.type "list",data:=.seq ([]:List Value).toArray } };have ty1:Shared.TypeIs { s with heap:=s.heap.push { cls:=.type "list",data:=.seq ([]:List Value).toArray } } (.ref S) "set":=⟨o,ae _ g,ex.1⟩
 have apart:Builtin.List.listSameRef (.ref s.heap.objs.size) (.ref S)=false:=by
   simp only[Builtin.List.listSameRef,beq_eq_false_iff_ne];exact fi Rh
 unfold Builtin.List.listExtendWith;refine B1 (wpAny_typeOf ty1 ?_);rw[Ee (by rw[apart];decide)];refine B1 (Kl (A:=A.in1) (by simpa using calm) x1 (cn x.len line) λit fp vals St s2 W pm hit=>?_);have YM:s2.TypeIs (.ref S) "set":=⟨o,W.keep S o (ae _ g),ex.1⟩
 refine B1 (Fs ?_);unfold Builtin.List.listLengthHint;refine B1 (NM YM Bj ?_)
 wp_delta
 refine B1 (P2 (T:="set") (b:=true) YM (by rw[isSubtype_type];kernel_rfl) ?_);show wpAny _ _ (typeOf (Value.ref S) >>=_) _ _ _;refine B1 (wpAny_typeOf YM ?_);refine B2 ?_;rw[Fh RF];refine B1 (Pl ?_);have gD2:=W.keep _ _ gD;have nD:s.heap.objs.size∉fp:=λz=>by
   rcases W.new _ z with e | e
   . exact fi Rh e
   . have e':(s.heap.push { cls:=.type "list",data:=.seq ([]:List Value).toArray }).objs.size<=s.heap.objs.size:=e;rw[szD]at e';exact Nat.not_succ_le_self _ e'
 refine B1 ?_;show wpAny _ A.in1 (updateSeq s.heap.objs.size (·.push .none) >>=λ_=>updateSeq s.heap.objs.size (·.pop)) _ _ s2;refine B1 (Kj gD2 rfl ?_);have gD3:=gN (Obj.mapSeq (·.push Value.none)) gD2 rfl;refine Kj gD3 rfl ?_;have gD4:=gN (Obj.mapSeq (·.pop)) gD3 rfl;have other:∀b o,b≠s.heap.objs.size->s2.heap.get? b=some o->((s2.heap.update s.heap.objs.size (Obj.mapSeq (·.push Value.none))).update s.heap.objs.size (Obj.mapSeq (·.pop))).get? b=some o:=
   λb o hb e=>(js _ _ (Ne.symm hb)).trans ((js _ _ (Ne.symm hb)).trans e)
 have vl:vals.size=es.size:=by rw[<- dC,pm.length_eq,ab,dC]
 refine B2 ⟨Mo PySem.F.plain_extend_loop _,codeAny_extend_loopS W.walk.toS (by rw[vl];exact cn x.len line) _ nD _ vals.size 0 _ _ _ rfl (hU _) (W.walk.frame 0 _ _ W.st λb hb o=>other b o λz=>nD (z ▸ hb)) gD4 (ItemsOf.nil _) λs3 acc c mv gD5 bu=>?_⟩;show wpAny _ A (load s.heap.objs.size >>=_) _ _ s3;refine B1 (wpAny_load gD5 ?_);have same:acc=vals:=by
   apply Array.ext_getElem?;intro i
   by_cases c:i < acc.size
   . have e:=cq c;rw[e];exact(bu.2 i _ e).symm
   . rw[ka QR,ka (by rw[<- bu.1];omega)]
 subst same;obtain⟨i1,i2⟩:=Nd x.elems pm;refine B2 (q _ _ _ i1 (i2.nodup_iff.mpr x.nd) (λk=>i2.mem_iff.trans (x.mem k)) ?_ (show s3.gens=s.gens from(show s3.gens=s2.gens from mv.gens).trans W.gens) (mv.os.trans W.os) (λb ob e=>?_) (fg (ag gD5)))
 . rw[i2.length_eq,qz,ab,dC];exact x.len
 . have lt:b < s.heap.objs.size:=ag e;refine mv.heap b ob (λz=>?_) (other b ob (cv lt) (W.keep b ob (ae _ e)));rcases List.mem_cons.mp z with z | z
   . exact cv lt z
   . have zi:b=it:=by simpa using z
     subst zi;have e':(s.heap.push { cls:=.type "list",data:=.seq ([]:List Value).toArray }).objs.size<=b:=W.old;rw[szD]at e';exact fw _ (bp (ib lt) e')
theorem Dg (calm:A.handled=none)(h:oJ P w s.heap S (fN w) M n)(jw:n < 64){R:Value->Shared->Prop}
   (q:∀(D:Addr) (out:List Value) (ks:List Int) (m:Nat) (s':Shared),IntsAre out ks->ks.Pairwise (· < ·)->(∀k,k∈ks↔M k)->ks.length<=n->s'.gens=s.gens->s'.os=s.os->(∀b o,s.heap.get? b=some o->s'.heap.get? b=some o)->s.heap.objs.size<=D->s'.heap.get? D=some (seqObj "list" out.toArray m)->R (.ref D) s'):
   wpAny (model P w) A (call (.builtin "sorted") [.ref S]) R E s:=by
 refine Calls.call_function_entry kind_sorted plain_sorted entry_sorted (args_sorted1 _) ?_;unfold Builtin.«sorted»;refine B1 (m:=checkCount "sorted" 1 1 _) (B2 ?_);refine B1 (Bk (A:=A.in1) (by simpa using calm) h QR λus ks s2 i1 nd mem len e1 e2 kp big=>?_);have lU:us.length=ks.length:=by rw[<- i1.nums,ab]
 have fU:us.length<=sizeLine:=by rw[lU];exact cn len (cn (fg jw) RF)
 refine B1 (wpAny_newList ?_ fU);have g2:(s2.heap.push (seqObj "list" us.toArray 0)).get? s2.heap.objs.size=some (seqObj "list" us.toArray 0):=cb _ rfl;show wpAny _ _ _ _ _ { s2 with heap:=s2.heap.push (seqObj "list" us.toArray 0) };refine B1 (Fs (Hk slot_list_sort ⟨_,g2,rfl⟩ entry_list_sort (list_sort_tree g2 i1 QR λout ks' a1 a2 a3=>⟨_,rfl,?_⟩) (args_list_sort _)));obtain⟨m,g3⟩:=sortedHeap_at (out:=out) g2;refine B2 ⟨_,rfl,q s2.heap.objs.size out.toList ks' m _ a1 ?_ (λk=>a2.mem_iff.trans (mem k)) (by rw[a2.length_eq];exact len) e1 e2 (λb o z=>?_) big (by simpa using g3)⟩
 . have YN:ks'.Nodup:=a2.nodup_iff.mpr nd;have both:=List.Pairwise.and a3 YN;exact both.imp λz=>by omega
 . have lt:b < s2.heap.objs.size:=ag (kp b o z);have lt':b < (s2.heap.push (seqObj "list" us.toArray 0)).objs.size:=by rw[eC];exact ib lt
   exact(sortedHeap_old (cv lt) lt').trans (ae _ (kp b o z))
theorem Inv.YO (I:Inv X pins σ H s)(e1:s'.gens=s.gens)(e2:s'.os=s.os)(e3:s'.heap=s.heap):Inv X pins σ H s':=by
 obtain⟨hp,g,d,tk,os⟩:=s;obtain⟨Ri,g',d',tk',os'⟩:=s';dsimp only at e1 e2 e3;subst e1 e2 e3;exact⟨I.ok,I.os,I.bare,I.base,I.loc,I.cell,I.free,I.kQ,I.pin,I.c7,I.len⟩
def Bl (K:Frag)(t:TA):TE:=λσ H Q=>t σ H λvs H1=>∃(p:Addr) (ns:List Int),vs=[.ref p]/\aR K H1 p (ns.map V.int)/\ns.length < 64/\∀(D:Addr) (ks:List Int),L2.new K H1 D->ks.Pairwise (· < ·)->(∀k,k∈ks↔k∈ns)->ks.length<=ns.length->Q (.ref D) (upd H1 D (.lst (ks.map V.int)))
theorem j0 {t:TA}{p jd:Pos}(hc:X.calm=true)(hg:Gl X "sorted")(hm:X.mg "sorted"=none)(Vk:Gl X "set")(Vl:X.mg "set"=none)(ha:JA X [e] t)
   (he:starEach [.Call (.Name "set" p2) [e] [] jd] X.env=(false,eval (.Call (.Name "set" p2) [e] [] jd) X.env)::starEach [] X.env:=by rfl)
   (Hs:starEach [e] X.env=(false,eval e X.env)::starEach [] X.env:=by rfl):
   JE X (.Call (.Name "sorted" p) [.Call (.Name "set" p2) [e] [] jd] [] pos) (Bl X.K t):=⟨by
 intro pins s σ H Q I h;refine FV (fV I hg hm GJ (vb ?_ he rfl));rw[he];show wpAny _ _ (spliced ((false,eval (.Call (.Name "set" p2) [e] [] jd) X.env)::backTo pos (starEach [] X.env))) _ _ s;refine Calls.spliced_cons ?_;refine FV (fV I Vk Vl QW (dy (bI (ha.h jd pins s σ H _ I h) λus s1 ⟨vs,H1,I1,r1,q1⟩=>?_) Hs rfl));obtain⟨a,ns,rfl,hx,jw,q⟩:=q1;obtain⟨u,rfl,ru⟩:=vals1 r1;cases ru;obtain⟨bu,rv,ht,hz⟩:=I1.list hx;have li:bu.length=ns.length:=by rw[<- rv.length,ab]
 have calm:=I1.ok.hd hc;refine Hi calm ht.isList (by simpa using uV rv) (by rw[cp,li];exact bp (Nat.succ_lt_succ jw) RF) λh2 tk hS kp=>?_;refine Calls.spliced_nil ?_;refine Dg (s:={ s1 with heap:=h2,toks:=tk }) calm hS jw λD out ks m s3 i1 up mem len e1 e2 kp3 big g=>?_;have szS:s1.heap.objs.size<=D:=by
   obtain⟨es,ep,tb,x⟩:=hS;obtain⟨o,go,_⟩:=x.at_;exact cn (fg (ag go)) big
 have lk:ks.length<=sizeLine:=cn len (cn (fg jw) RF);have I3:Inv X pins σ (upd H1 D (.lst (ks.map V.int))) { s1 with heap:=s3.heap,toks:=s3.toks }:=I1.laid (t':=s3.toks) (o:=.lst (ks.map V.int)) (λb o z=>kp3 b o (kp b o z)) szS ⟨by rw[ab];exact lk,out,m,yw i1,by simpa[seqObj] using g⟩;have I4:=I3.YO (s':=s3) e1 e2 rfl;exact⟨.ref D,_,I4,rfl,q D ks ⟨I1.c7.fresh szS,I4.lX af⟩ up mem len⟩⟩
theorem Inv.EO (I:Inv X pins σ H s)(k:∀b u,b∉ch->s.heap.get? b=some u->h'.get? b=some u)(hf:∀b∈ch,lN X pins H b)
   (hp:s.heap.objs.size<=T) (new:cO X.prog X.w (upd H T o) h' T o):Inv X pins σ (upd H T o) { s with heap:=h',toks:=t' }:=by
 have fr:=I.c7.fresh hp;have out:∀b u,H b=some u->b∉ch:=λb u e z=>by rw[(hf b z).1]at e;cases e
 refine I.step (g':=s.gens) (d':=s.drawn) (ch:=ch) (λb hb=>⟨(hf b hb).2.2.2.1,(hf b hb).2.1,(hf b hb).2.2.2.2.1,(hf b hb).2.2.2.2.2⟩) (λb u _ _ hc e _=>k b u hc e) (λb u _ _ hc e _=>⟨u.slots,k b u hc e⟩)
   (λb u _ e z=>by rw[au (cv (bp (ag e) hp))];exact z) (λb u hc e=>⟨u,k b u hc e⟩) (λb xs e=>by rw[au (aH e fr)];exact e) (λb u v e=>by rw[au (aH e fr)];exact e)
   (λb ps e=>⟨#[],by rw[au (aH e fr),e];simp⟩) (λm hm=>?_) (λb u e=>?_) I.bare
 . obtain⟨ob,es,ep,ho,r⟩:=hm;exact⟨ob,es,ep,k _ ob (λz=>(hf _ z).2.1 rfl) ho,r⟩
 . by_cases hb:b=T
   . subst hb;rw[af]at e;cases e;exact new
   . rw[au hb]at e;refine(I.c7 b u e).pD (λc v hc q=>k c v ?_ q) (λc q=>by rw[au (aH q fr)];exact q) λc xs q=>by rw[au (aH q fr)];exact q
     rcases hc with z | z
     . rw[z];exact out b u e
     . exact out c _ z
def Mh (K:Frag)(a:Addr):It:=⟨λi H=>∃xs x,aR K H a xs/\xs[i]?=some x,λi H x H'=>∃T v,L2.new K H T/\(∀xs,aR K H a xs->xs[i]?=some v)/\x=.ref T/\H'=upd H T (.tup [.int i,v]),λi H=>∃xs,aR K H a xs/\xs.length<=i⟩
theorem Ht {K:Frag}{k:Nat}(a e it:Addr)(ne:e≠it):Turn P w K (.Tuple es k tp) (Mh K a) [e,it] e (λi h=>(∃old,IsEnum h e it ((i:Nat):Int) old)/\h.IsListIter it a i) where
 mem:=RR
 obj:=λi h st b hb=>by
   simp only[List.mem_cons,List.not_mem_nil,Fm]at hb;rcases hb with rfl | rfl
   . obtain⟨⟨old,g⟩,_⟩:=st;exact⟨_,g,λv z=>by cases z⟩
   . obtain⟨_,o,g,c,d⟩:=st;exact⟨o,g,λv z=>by rw[d]at z;cases z⟩
 keep:=λi h h' st kk=>⟨let ⟨old,g⟩:=st.1;⟨old,kk e RR _ g⟩,st.2.at λo g=>kk it RR o g⟩
 item:=by
   intro X hP hw hK hc i pins s σ H E I hf st hg;subst hP hw hK;obtain⟨xs,x,hq,hx⟩:=hg;obtain⟨bu,rv,p,hz⟩:=I.list hq;obtain⟨u,hu,ru⟩:=rv.get hx;obtain⟨⟨old,he⟩,hit⟩:=st;refine wpAny_pyNext_enum_item he hit p.isList (x:=u) (by simpa using hu) ne λh1 Xf hit1 gT sz kp=>?_;refine⟨_,rfl,wpAny_letOwnedTupleGo_enum Xf λh2 Hs sb=>?_⟩;have ltE:e < s.heap.objs.size:=ag he;have YQ:h2.get? s.heap.objs.size=some { cls:=.type "tuple",data:=.seq #[.int i s.toks,u] }:=(sb.2 _ (fi ltE)).trans gT;have I1:Inv X pins σ (upd H s.heap.objs.size (.tup [.int i,x])) { s with heap:=h2,toks:=s.toks + 1 }:=by
     refine I.EO (ch:=[e,it]) (λb o hb g=>?_) hf (ar _) ⟨(show 2<=sizeLine by decide),[.int i s.toks,u],.cons ⟨_,rfl⟩ (.cons ru .nil),_,YQ,rfl,_,rfl⟩;simp only[List.mem_cons,List.not_mem_nil,Fm,He]at hb;exact(sb.2 b hb.1).trans (kp b o hb.1 hb.2 g)
   refine⟨.ref s.heap.objs.size,_,I1,rfl,⟨_,x,⟨I.c7.fresh (ar _),I1.lX af⟩,λys hy=>by rw[I.lJ hy hq];exact hx,rfl,rfl⟩,⟨⟨_,by simpa using Hs⟩,hit1.at λo g=>(sb.2 it (Ne.symm ne)).trans g⟩,λb hb=>?_⟩;have ltb:b < s.heap.objs.size:=by
     simp only[List.mem_cons,List.not_mem_nil,Fm]at hb;rcases hb with rfl | rfl
     . exact ltE
     . obtain⟨o,g,_⟩:=hit;exact ag g
   rw[au (cv ltb)];exact(hf b hb).1
 done:=by
   intro X hP hw hK hc i pins s σ H E I hf st hg;subst hP hw hK;obtain⟨xs,hq,hx⟩:=hg;obtain⟨bu,rv,p,hz⟩:=I.list hq;obtain⟨⟨old,he⟩,hit⟩:=st;obtain⟨f0,f1,f2,f3,f4,f5⟩:=hf it RR;have hl:=rv.length;exact wpAny_pyNext_enum_end (I.ok.hd hc) he hit p.isList Sr λh' eb=>⟨rfl,I.turned (t':=s.toks) (λb o hb g=>eb b o hb g) f0 f1 f3 f4 f5⟩
 self:=λ_ _ _ _ _ st h=>let ⟨_,g⟩:=st.1;wpAny_pyIter_enum g h
def ER (K:Frag)(tl:TA):TI:=λσ H R=>tl σ H λvs H1=>∃a,vs=[.ref a]/\(∃xs,aR K H1 a xs)/\R (Mh K a) H1
theorem OR {l:Expr}{t:TA}{k:Nat}{p:Pos}(hg:Gl X "enumerate")(hm:X.mg "enumerate"=none)(ha:JA X [l] t)(hs:starEach [l] X.env=(false,eval l X.env)::starEach [] X.env:=by rfl):
   JI X (.Tuple es k tp) (.Call (.Name "enumerate" p) [l] [] pos) (ER X.K t):=⟨by
 intro pins s σ H R I h;refine Call_ (fV I hg hm zu (dy (bI (ha.h pos pins s σ H _ I h) λus s1 ⟨vs,H1,I1,r1,q1⟩=>?_) hs rfl));obtain⟨a,rfl,⟨xs,hx⟩,q⟩:=q1;obtain⟨u,rfl,ru⟩:=vals1 r1;cases ru;obtain⟨bu,rv,ht,hz⟩:=I1.list hx;refine call_enumerate_list ht.isList λh2 he hit sz kp=>?_;have I2:Inv X pins σ H1 { s1 with heap:=h2 }:=I1.kept (t':=s1.toks) kp;refine wpAny_pyIter_enum he ⟨_,[s1.heap.objs.size + 1,s1.heap.objs.size],_,Mh X.K a,H1,rfl,I2,Ht a _ _ (Nat.succ_ne_self _),⟨⟨_,he⟩,hit⟩,λb hb=>?_,q⟩;simp only[List.mem_cons,List.not_mem_nil,Fm]at hb;have le:s1.heap.objs.size<=b:=by
   rcases hb with rfl | rfl
   . exact Nat.le_succ _
   . exact ar _
 exact I1.IQ le (I1.c7.fresh le)⟩
section
variable {K:Frag}{tt:TT}{a:Addr}{Q:Hp->Prop}
theorem Km {Q:VK}:GU K (ER K ta) src g tt te σ H Q=ta σ H (λvs H1=>∃a,vs=[.ref a]/\(∃xs,aR K H1 a xs)/\∀D,L2.new K H1 D->b7 (Mh K a) g tt te D (λH'=>Q (.ref D) H') (pick σ src) (upd H1 D (.lst []))):=rfl
theorem Nf (Pv:Nat->List V->St->Hp->Prop)(h0:Pv 0 [] σ H)(hl:∀i acc σ H,i<=xs.length->Pv i acc σ H->aR K H a xs)
   (hs:∀i x acc σ H T,xs[i]?=some x->Pv i acc σ H->L2.new K H T->g (.ref T) σ (upd H T (.tup [.int i,x])) λσ2 H2=>tt σ2 H2 λb H3=>if b=true then te σ2 H3 λv H4=>H4 D=some (.lst acc)/\acc.length < sizeLine/\Pv (i + 1) (acc++[v]) σ2 (upd H4 D (.lst (acc++[v]))) else Pv (i + 1) acc σ2 H3)
   (hd:∀acc σ H,Pv xs.length acc σ H->Q H):b7 (Mh K a) g tt te D Q σ H:=by
 refine uT (n:=xs.length) Pv h0 (λi acc σ H hi h=>⟨xs,_,hl i acc σ H (fg hi) h,a9 hi⟩) (λacc σ H h=>⟨xs,hl _ acc σ H (ar _) h,ar _⟩) (λi acc σ H x H' hi h hy=>?_) hd;obtain⟨T,v,nT,hv,rfl,rfl⟩:=hy;exact hs i v acc σ _ T (hv xs (hl i acc σ _ (fg hi) h)) h nT
end
theorem Inv.Ng (I:Inv X pins σ H s)(k:∀b u,b∉ch->s.heap.get? b=some u->h'.get? b=some u)(hf:∀b∈ch,lN X pins H b):
   Inv X pins σ H { s with heap:=h',toks:=t' }:=by
 have out:∀b u,H b=some u->b∉ch:=λb u e z=>by rw[(hf b z).1]at e;cases e
 refine I.step (g':=s.gens) (d':=s.drawn) (ch:=ch) (λb hb=>⟨(hf b hb).2.2.2.1,(hf b hb).2.1,(hf b hb).2.2.2.2.1,(hf b hb).2.2.2.2.2⟩) (λb u _ _ hc e _=>k b u hc e) (λb u _ _ hc e _=>⟨u.slots,k b u hc e⟩)
   (λ_ _ _ _ z=>z) (λb u hc e=>⟨u,k b u hc e⟩) (λ_ _ e=>e) (λ_ _ _ e=>e)
   (λb ps e=>⟨#[],by rw[e];simp⟩) (λm hm=>?_) (λb u e=>?_) I.bare
 . obtain⟨ob,es,ep,ho,r⟩:=hm;exact⟨ob,es,ep,k _ ob (λz=>(hf _ z).2.1 rfl) ho,r⟩
 . refine(I.c7 b u e).pD (λc v hc q=>k c v ?_ q) (λ_ q=>q) λ_ _ q=>q;rcases hc with z | z
   . rw[z];exact out b u e
   . exact out c _ z
def Rj (K:Frag)(a b:Addr):It:=⟨λi H=>∃xs ys x y,aR K H a xs/\aR K H b ys/\xs[i]?=some x/\ys[i]?=some y,λi H x H'=>∃T v u,L2.new K H T/\(∀xs,aR K H a xs->xs[i]?=some v)/\(∀ys,aR K H b ys->ys[i]?=some u)/\x=.ref T/\H'=upd H T (.tup [v,u]),λi H=>∃xs ys,aR K H a xs/\aR K H b ys/\(xs.length<=i∨ys.length<=i)⟩
theorem Kn {K:Frag}{k:Nat}(a b z TI TO i1 i2:Addr)(D:ZipApart z TI TO i1 i2 a b):Turn P w K (.Tuple es k tp) (Rj K a b) [z,TI,TO,i1,i2] z
   (λi h=>IsZip h z TI TO .none/\IsPair h TI (.ref i1) (.ref i2)/\(∃p q,IsPair h TO p q)/\h.IsListIter i1 a i/\h.IsListIter i2 b i) where
 mem:=RR
 obj:=λi h st c hc=>by
   obtain⟨g1,g2,⟨p,q,g3⟩,⟨o4,g4,c4,d4⟩,⟨o5,g5,c5,d5⟩⟩:=st;simp only[List.mem_cons,List.not_mem_nil,Fm]at hc;rcases hc with rfl | rfl | rfl | rfl | rfl
   . exact⟨_,g1,λv z=>by cases z⟩
   . exact⟨_,g2,λv z=>by cases z⟩
   . exact⟨_,g3,λv z=>by cases z⟩
   . exact⟨o4,g4,λv z=>by rw[d4]at z;cases z⟩
   . exact⟨o5,g5,λv z=>by rw[d5]at z;cases z⟩
 keep:=λi h h' st kk=>by
   obtain⟨g1,g2,⟨p,q,g3⟩,g4,g5⟩:=st;exact⟨kk z RR _ g1,kk TI RR _ g2,⟨p,q,kk TO RR _ g3⟩,g4.at λo g=>kk i1 RR o g,g5.at λo g=>kk i2 RR o g⟩
 item:=by
   intro X hP hw hK hc i pins s σ H E I hf st hg;subst hP hw hK;obtain⟨xs,ys,x,y,hq,hq',hx,hy⟩:=hg;obtain⟨bu,rv,p,hz⟩:=I.list hq;obtain⟨its',rv',p',hz'⟩:=I.list hq';obtain⟨u,hu,ru⟩:=rv.get hx;obtain⟨u',Ci,ru'⟩:=rv'.get hy;obtain⟨g1,g2,⟨a',b',g3⟩,g4,g5⟩:=st;refine wpAny_pyNext_zip_item D g1 g2 g3 g4 g5 p.isList p'.isList (x:=u) (y:=u') (by simpa using hu) (by simpa using Ci) λh1 Xg hTO1 Rf YR gT sz kp=>?_;refine⟨_,rfl,wpAny_letOwnedTupleGo_zip Xg λh2 hz2 sb=>?_⟩;have ltZ:z < s.heap.objs.size:=ag g1;have YQ:h2.get? s.heap.objs.size=some { cls:=.type "tuple",data:=.seq #[u,u'] }:=(sb.2 _ (fi ltZ)).trans gT;have I1:Inv X pins σ (upd H s.heap.objs.size (.tup [x,y])) { s with heap:=h2,toks:=s.toks }:=by
     refine I.EO (ch:=[z,TI,TO,i1,i2]) (λb o hb g=>?_) hf (ar _) ⟨(show 2<=sizeLine by decide),[u,u'],.cons ru (.cons ru' .nil),_,YQ,rfl,_,rfl⟩;simp only[List.mem_cons,List.not_mem_nil,Fm,He]at hb;exact(sb.2 b hb.1).trans (kp b o hb.1 hb.2.2.1 hb.2.2.2.1 hb.2.2.2.2 g)
   have kT:∀c o,c≠z->h1.get? c=some o->h2.get? c=some o:=λc o n g=>(sb.2 c n).trans g;refine⟨.ref s.heap.objs.size,_,I1,rfl,⟨_,x,y,⟨I.c7.fresh (ar _),I1.lX af⟩,λys hy=>by rw[I.lJ hy hq];exact hx,λzs Ip=>by rw[I.lJ Ip hq'];exact hy,rfl,rfl⟩,
     ⟨hz2,kT _ _ D.TIz (kp _ _ D.TIz D.TITO D.TIi1 D.TIi2 g2),⟨_,_,kT _ _ D.TOz hTO1⟩,Rf.at λo g=>kT _ o D.i1z g,YR.at λo g=>kT _ o D.i2z g⟩,λc hc=>?_⟩
   have ltc:c < s.heap.objs.size:=by
     obtain⟨o4,e4,_⟩:=g4;obtain⟨o5,e5,_⟩:=g5;simp only[List.mem_cons,List.not_mem_nil,Fm]at hc;rcases hc with rfl | rfl | rfl | rfl | rfl
     . exact ltZ
     . exact ag g2
     . exact ag g3
     . exact ag e4
     . exact ag e5
   rw[au (cv ltc)];exact(hf c hc).1
 done:=by
   intro X hP hw hK hc i pins s σ H E I hf st hg;subst hP hw hK;obtain⟨xs,ys,hq,hq',hx⟩:=hg;obtain⟨bu,rv,p,hz⟩:=I.list hq;obtain⟨its',rv',p',hz'⟩:=I.list hq';obtain⟨g1,g2,⟨a',b',g3⟩,g4,g5⟩:=st;have hl:=rv.length;have hl':=rv'.length;refine wpAny_pyNext_zip_end (I.ok.hd hc) D g1 g2 g3 g4 g5 p.isList p'.isList ?_ λh' kp=>⟨rfl,I.Ng (t':=s.toks) (ch:=[z,TI,TO,i1,i2]) (λb o hb g=>?_) hf⟩
   . rcases hx with e | e
     . exact .inl Sr
     . exact .inr Sr
   . simp only[List.mem_cons,List.not_mem_nil,Fm,He]at hb;exact kp b o hb.1 hb.2.2.1 hb.2.2.2.1 hb.2.2.2.2 g
 self:=λ_ _ _ _ _ st h=>Qb st.1 h
def Nh (K:Frag)(tl:TA):TI:=λσ H R=>tl σ H λvs H1=>∃a b,vs=[.ref a,.ref b]/\(∃xs,aR K H1 a xs)/\(∃ys,aR K H1 b ys)/\R (Rj K a b) H1
theorem YS {l l':Expr}{t:TA}{k:Nat}{p:Pos}(hg:Gl X "zip")(hm:X.mg "zip"=none)(ha:JA X [l,l'] t)(hs:starEach [l,l'] X.env=(false,eval l X.env)::starEach [l'] X.env:=by rfl)(IT:(backTo pos (starEach [l'] X.env)).any (·.1)=false:=by rfl):
   JI X (.Tuple es k tp) (.Call (.Name "zip" p) [l,l'] [] pos) (Nh X.K t):=⟨by
 intro pins s σ H R I h;refine Call_ (fV I hg hm CW (dy (bI (ha.h pos pins s σ H _ I h) λus s1 ⟨vs,H1,I1,r1,q1⟩=>?_) hs IT));obtain⟨a,b,rfl,⟨xs,hx⟩,⟨ys,hy⟩,q⟩:=q1;obtain⟨u,u',rfl,ru,ru'⟩:=vals2 r1;cases ru;cases ru';obtain⟨bu,rv,ht,hz⟩:=I1.list hx;obtain⟨its',rv',ht',hz'⟩:=I1.list hy;have la:a < s1.heap.objs.size:=by obtain⟨_,e,_⟩:=ht.isList;exact ag e
 have lb:b < s1.heap.objs.size:=by obtain⟨_,e,_⟩:=ht'.isList;exact ag e
 refine call_zip_2 ht.isList ht'.isList λh2 g1 g2 g3 g4 g5 sz kp=>?_;have I2:Inv X pins σ H1 { s1 with heap:=h2 }:=I1.kept (t':=s1.toks) kp;refine Qb g1 ⟨_,[s1.heap.objs.size + 4,s1.heap.objs.size + 2,s1.heap.objs.size + 3,s1.heap.objs.size,s1.heap.objs.size + 1],_,Rj X.K a b,H1,rfl,I2,Kn a b _ _ _ _ _ (zipApart_new la lb),⟨g1,g2,⟨_,_,g3⟩,g4,g5⟩,λb hb=>?_,q⟩;simp only[List.mem_cons,List.not_mem_nil,Fm]at hb;have le:s1.heap.objs.size<=b:=by
   rcases hb with rfl | rfl | rfl | rfl | rfl
   . exact gL _ _
   . exact gL _ _
   . exact gL _ _
   . exact ar _
   . exact gL _ _
 exact I1.IQ le (I1.c7.fresh le)⟩
section
variable {K:Frag}{D:Ends}{a b:Addr}{ys:List V}
theorem Ko:oq (Nh K ta) g tb D σ H=ta σ H (λvs H1=>∃a b,vs=[.ref a,.ref b]/\(∃xs,aR K H1 a xs)/\(∃ys,aR K H1 b ys)/\Loop (Rj K a b) g tb D σ H1):=rfl
end
theorem j3 (hg:X.A.guards=some [])(hu:X.A.units + 64 < cLine):ef X (.builtin "repr") (λxs H Q=>∃(p:Addr) (d:PyData),xs=[.ref p]/\Is X.K H d (.ref p)/\d.showable=true/\d.hasDict=false/\d.depth<=60/\d.shown.length<=sizeLine/\Q (.str d.shown) H):=by
 intro pins s σ H xs us Q I r h;obtain⟨p,d,rfl,hd,hs,hnd,hdp,hl,q⟩:=h;obtain⟨u,rfl,ru⟩:=vals1 r;cases ru;obtain⟨as,rd⟩:=hd.reads I (u:=.ref p) rfl;refine repr_of_reads' rd hs (PyData.noDict_hsm hnd) hg QR (λ_ _ e=>e) (λh' u tk hk=>?_) hl;exact⟨.str d.shown,H,I.kept (t':=tk) hk,⟨u,rfl⟩,q⟩
mutual
def wt:PyData->Nat
 | .none=>1
 | .bool _=>1
 | .int _=>1
 | .str _=>1
 | .list ds=>fY ds + 1
 | .tuple ds=>fY ds + 1
 | .dict _=>1
def fY:List PyData->Nat
 | []=>0
 | d::ds=>wt d + fY ds
end
mutual
def bare:PyData->Bool
 | .none=>true
 | .int i=>decide (i.natAbs.log2 < 1920)
 | .list ds=>zG ds
 | .tuple ds=>zG ds
 | _=>false
def zG:List PyData->Bool
 | []=>true
 | d::ds=>bare d&&zG ds
end
theorem Bm (ts:List Str):(listText ts).length<=piled ts + 2:=by
 cases ts with
 | nil=>exact xv rfl
 | cons t r=>
   have h:=textFrom_length_pos r 1 (("[":Str)++(if (0:Nat) > 0 then ", " else "":String)++t) (Nat.succ_pos 0);have e:((("[":Str)++(if (0:Nat) > 0 then ", " else "":String)++t)).length=1 + t.length:=by
     rw[Pm,Pm];rfl
   have hX:(listText (t::r)).length=(textFrom 0 "[" (t::r)).length + 1:=by
     show(textFrom 0 "[" (t::r)++"]").length=_;rw[Pm];rfl
   have hY:(textFrom 0 "[" (t::r)).length=(textFrom 1 (("[":Str)++(if (0:Nat) > 0 then ", " else "":String)++t) r).length:=rfl;rw[hX,hY,h,e,piled_cons];omega
theorem zH (ts:List Str):(tupleText ts).length<=piled ts + 3:=by
 unfold tupleText;rw[Pm,Pm];have e1:((("(":String):Str)).length=1:=rfl;have e3:(((if ts.length==1 then ",)" else ")":String):Str)).length<=2:=by split <;> decide
 rw[e1]
 by_cases h:ts=[]
 . subst h;have:(Str.join ", " []).length=0:=rfl;omega
 . have:=join_length_add ts h;omega
theorem Kq {i:Int}(h:i.natAbs < 10 ^ 60):bare (.int i)=true:=by
 simp only[bare,FC]
 by_cases z:i.natAbs=0
 . rw[z];decide
 . exact(Nat.log2_lt z).mpr (Nat.lt_trans h Q1)
end L2
namespace PySem
open Sem (wp)
end PySem
namespace PySem
namespace F
end F
variable{A:Around}{prog:Program}{w:World}
section
variable {E:Value->Shared->Prop}{s:Shared}
end
section
variable {R:Result->Shared->Prop}{I:Addr}{fp wr:List Addr}{G:Array GenState->Array GenState->Prop}{n:Nat}{P:Nat->Value->Prop}{St:Nat->Shared->Prop}{K:Type}[DecidableEq K]{knd:KeyKind prog w K}
end
end PySem
namespace PySem
section
variable {prog:Program}{w:World}{K:Type}[DecidableEq K]{knd:KeyKind prog w K}{A:Around}{E:Value->Shared->Prop}{s:Shared}
end
end PySem
namespace L2
open PySem PySem.Spec PyProof.Rows
variable{A:Around}{X:Cx}{H:Hp}{src:List (Option Nat)}{ifs:List Expr}{N:List Str}{pos:Pos}{P prog:Program}{sc:Scope}{s:Shared}{σ:St}{td te:TE}{g:TG}{E:Value->Shared->Prop}{w:World}
theorem fz {o i:Expr}{ty:TE}(hu:X.A.units + 64 < cLine)(ho:JE X o td)(hi:JE X i ty)(hs:QT i):JE X (.Subscript o i pos) (Ez td ty):=⟨MX QR ho.h hi.h hs⟩
section
variable {pins:List (Addr×Obj)}
end
def Itd (d:Addr)(od:Obj)(aA:List (Key×V)):It:=
 ⟨λi H=>H d=some (.sP od (.dK aA))/\i < aA.length,λi H x H'=>H'=H/\∃p,aA[i]?=some p/\x=kV p.1,λi H=>H d=some (.sP od (.dK aA))/\aA.length<=i⟩
def YT (K:Frag)(td:TE)(src:List (Option Nat))(g:TG)(tt:TT)(te:TE):TE:=λσ H Q=>td σ H λx H1=>∃a aA,x=.ref a/\H1 a=some (.dK aA)/\∀od D,L2.new K (upd H1 a (.sP od (.dK aA))) D->
 b7 (Itd a od aA) g tt te D (λH'=>H' a=some (.sP od (.dK aA))/\Q (.ref D) (upd H' a (.dK aA))) (pick σ src) (upd (upd H1 a (.sP od (.dK aA))) D (.lst []))
section
variable {tg iter elt:Expr}{tt:TT}
end
section
variable {R:Result->Shared->Prop}
end
def Dh (J:It)(g:TG)(tt:TT)(tk tv:TE)(D:Addr)(Q:Hp->Prop)(σ:St)(H:Hp):Prop:=∃W:Nat->Nat->List (Key×V)->St->Hp->Prop,(∃m,W 0 m [] σ H)/\∀i m acc σ H,W i m acc σ H->
 (J.stop i H/\Q H)∨(J.go i H/\∃N:List (Key×V)->St->Hp->Prop,(∀acc' σ' H',N acc' σ' H'->∃m',m' < m/\W (i + 1) m' acc' σ' H')/\∀x H',J.Me i H x H'->g x σ H' λσ2 H2=>tt σ2 H2 λb H3=>
   if b=true then tk σ2 H3 λy H4=>tv σ2 H4 λv H5=>∃k:Key,y=kV k/\H5 D=some (.dK acc)/\acc.length < sizeLine/\N (putK acc k v) σ2 (upd H5 D (.dK (putK acc k v)))
   else N acc σ2 H3)
def tDc (K:Frag)(wi:TI)(src:List (Option Nat))(g:TG)(tt:TT)(tk tv:TE):TE:=λσ H Q=>wi σ H λJ H1=>∀D,L2.new K H1 D->Dh J g tt tk tv D (λH'=>Q (.ref D) H') (pick σ src) (upd H1 D (.dK []))
section
variable {tg iter kx vx:Expr}{wi:TI}{tt:TT}{tk tv:TE}
end
section
variable {S:Addr}{vs:List (Key×Value)}{ep:Nat}
end
theorem ES {o i value:Expr}{ty tv:TE}{pos':Pos}(hu:X.A.units + 64 < cLine)(ho:JE X o td)(hi:JE X i ty)(hv:JE X value tv)(hs:swapsWith value (some (.Subscript o i pos')) pos.line X.env=pure false:=by rfl):JS X (.Assign [.Subscript o i pos'] value pos) (Jp td ty tv):=⟨MY QR ho.h hi.h hv.h hs⟩
def Vm (K:Frag):V->List V->Hp->VK->Prop:=λx vs H Q=>∃a b,x=.str a/\vs=[.str b]/\(b.length==0)=false/\a.length<=sizeLine/\∀D,L2.new K H D->Q (.ref D) (upd H D (.tup [.str (Txt.partition a b).1,.str (Txt.partition a b).2.1,.str (Txt.partition a b).2.2]))
def YU:V->Option Int->Option Int->Hp->VK->Prop:=λx lo hi H Q=>∃a,x=.str a/\a.length<=sizeLine/\Q (.str (Txt.slice a lo hi)) H
def Rk (sep:Str)(ts:List Str):Nat:=ts.foldl (λn x=>n + x.length + sep.length) 0
def rJoin (K:Frag):V->List V->Hp->VK->Prop:=λx vs H Q=>∃(sep:Str) (p:Addr) (ts:List Str),x=.str sep/\vs=[.ref p]/\aR K H p (ts.map V.str)/\Rk sep ts<=sizeLine/\(Str.join sep ts).length<=sizeLine/\Q (.str (Str.join sep ts)) H
def Ni (K:Frag)(t:TA):TE:=λσ H Q=>t σ H λvs H1=>∃j:Int,vs=[.int j]/\0<=j/\j < 100000/\∀D,L2.new K H1 D->Q (.ref D) (upd H1 D (.lst ((List.range j.toNat).map λi:Nat=>V.int (i:Int))))
def Rl (K:Frag)(tk tv:TE):TE:=λσ H Q=>∀p,L2.new K H p->tk σ (upd H p (.dK [])) λx H1=>tv σ H1 λy H2=>H2 p=some (.dK [])/\∃kv:Key×V,[(x,y)]=[(kV kv.1,kv.2)]/\Q (.ref p) (upd H2 p (.dK [kv]))
def Nj:V->List V->Hp->VK->Prop:=λx vs H Q=>∃(a:Addr) (aA:List (Key×V)),x=.ref a/\vs=[]/\H a=some (.dK aA)/\Q .bO (upd H a (.dK []))
def Kr (K:Frag):TE:=λ_ H Q=>∀p,L2.new K H p->Q (.ref p) (upd H p (.dK []))
theorem Ks :JE X (.Dict [] [] pos) (Kr X.K):=⟨λpins s σ H Q I h=>
 wpAny_Dict_empty ⟨.ref s.heap.objs.size,_,I.laid (a:=s.heap.objs.size) (o:=.dK []) (t':=s.toks) (λ_ _ q=>ae _ q) (ar _) (AY s.heap I.big),rfl,h _ I.new⟩⟩
section
variable {K:Frag}{tt:TT}{D:Addr}{Q:Hp->Prop}{a b:Addr}{xs ys:List V}
theorem Rn (Pv:Nat->List V->St->Hp->Prop)(el:xs.length=ys.length)(h0:Pv 0 [] σ H)(hl:∀i acc σ H,i<=xs.length->Pv i acc σ H->aR K H a xs/\aR K H b ys)
   (hs:∀i x y acc σ H T,xs[i]?=some x->ys[i]?=some y->Pv i acc σ H->L2.new K H T->g (.ref T) σ (upd H T (.tup [x,y])) λσ2 H2=>tt σ2 H2 λb H3=>if b=true then te σ2 H3 λv H4=>H4 D=some (.lst acc)/\acc.length < sizeLine/\Pv (i + 1) (acc++[v]) σ2 (upd H4 D (.lst (acc++[v]))) else Pv (i + 1) acc σ2 H3)
   (hd:∀acc σ H,Pv xs.length acc σ H->Q H):b7 (Rj K a b) g tt te D Q σ H:=by
 refine uT (n:=xs.length) Pv h0 (λi acc σ H hi h=>?_) (λacc σ H h=>?_) (λi acc σ H x H' hi h hy=>?_) hd
 . obtain⟨q1,q2⟩:=hl i acc σ H (fg hi) h;exact⟨xs,ys,xs[i],ys[i]'QR,q1,q2,by simp[hi],by simp[<- el,hi]⟩
 . obtain⟨q1,q2⟩:=hl _ acc σ H (ar _) h;exact⟨xs,ys,q1,q2,.inl (ar _)⟩
 . obtain⟨q1,q2⟩:=hl i acc σ H (fg hi) h;obtain⟨T,v,u,nT,hv,hu,rfl,rfl⟩:=hy;exact hs i v u acc σ H T (hv xs q1) (hu ys q2) h nT
end
def CXO (P:Program)(w:World):AO:=λouter H s E e s'=>∃(a:Addr) (cls a0:Value) (B:Heap) (H':Hp),e=.ref a/\s'.os=s.os/\AllBare s'.gens/\Heap.FlyingW B outer a cls a0 s'.heap/\Un (Cd outer) [] H H' s.heap s'.heap/\
 (∀b o,s.heap.get? b=some o->H b=none->b∉Cd outer->B.get? b=some o)/\(∀b o,s.heap.get? b=some o->b∉Cd outer->∃o',B.get? b=some o')/\pB P w H' B/\s.heap.get? a=none/\E cls none H'
section
variable {E:XK}
def Cx.YV (X:Cx)(E:XK):Prop:=X.xe=λe s'=>wpAny (model X.prog X.w) X.A (leaving X.env e) (λ_ s''=>CXO X.prog X.w X.outer X.H₀ X.s₀ E e s'') (λe' s''=>CXO X.prog X.w X.outer X.H₀ X.s₀ E e' s'') s'
end
section
variable {K:Frag}{mg:Str->Option Value}{base:Heap}{qual:Str}{scope:Scope}{f:Addr}{cd:Value}{outer:List Env}{s0:Shared}{H0:Hp}{E:XK}{CX:AO}
def Ro (E:XK)(c:Value):TS:=λ_ _ H=>E c none H
end
end L2
namespace L2
open PySem PySem.Spec PyProof.Rows PySem.W PySem.Calls PySem.Builtin PySem.Builtin.ObjectAttr PySem.Builtin.Getset_descriptor
structure Rp (K:Frag)(C:Addr):Prop where
 ga:findIn K (.ref C) "__getattribute__"=some (some (.builtin "BaseException.__getattribute__"))
 gh:findIn K (.ref C) "__getattr__"=some none
 cl:findIn K (.ref C) "__class__"=some (some (.builtin "object.__class__"))
 mo:mroIn K C (.type "object")=some true
 mb:mroIn K C (.type "BaseException")=some true
 gt:specialIn K (.builtin "object.__class__") "__get__"=some (some (.builtin "getset_descriptor.__get__"))
 tk:takesIn K (.builtin "object.__class__")=some true
 is:(clsIn K C).isSome=true
def Xh (a C:Addr)(h:Heap):Prop:=∃o,h.get? a=some o/\o.cls=.ref C
section
variable {K:Frag}{prog:Program}{w:World}{A:Around}{E:Value->Shared->Prop}{s:Shared}{a C:Addr}
theorem Xh.ty {M:Model}{h:Heap}(x:Xh a C h):Looks M h (typeOf (.ref a)) (.ref C):=by
 obtain⟨o,e,c⟩:=x;exact c ▸ (Looks.ld e).andThen .now
end
end L2
namespace L2
open PySem PySem.Spec PyProof.Rows
variable{f:Addr}{A:Around}{X:Cx}{body:Expr}{base:Heap}{H:Hp}{pins:List (Addr×Obj)}{cl:List (Str×Addr)}{N:List Str}{pos:Pos}{P:Program}{scope:Scope}{s:Shared}{σ:St}{qual:Str}{mg:Str->Option Value}{te:TE}{w:World}{E:XK}
section
variable {abq:List (Addr×Obj)}{H':Hp}{xe:Value->Shared->Prop}
end
def Ends.gone (D:Ends)(i:Nat):Ends:={ nx:=λσ H=>D.nx (σ.set i none) H,rt:=D.rt,bk:=λσ H=>D.bk (σ.set i none) H,ct:=λσ H=>D.ct (σ.set i none) H }
def YW (K:Frag)(CF:Addr)(len i:Nat)(tb:XK->TS)(ts:TS):TS:=λD σ H=>
 tb (λcls _ H'=>∃C,cls=.ref C/\Rp K C/\exmOne K (.ref C) (.ref CF)=some true/\∀a,L2.new K H' a->ts (D.gone i) ((List.replicate len none).set i (some (.ref a))) (upd H' a (.ext (Xh a C)))) D σ H
section
variable {K:Frag}{name:Str}{c':Addr}{outer:List Env}{params:Arguments}{pm ctv:Value}{Q:VK}{k:Nat}
end
section
variable {name:Str}{c':Addr}{params:Arguments}{pm ctv:Value}{σl:St}{k i:Nat}{x:Str}{p:Pos}
end
def Nk (H:Hp)(ps:Array Value)(qual:Str):Prop:=TriplesOk ps.toList/\∀q v,codeAmong q ps.toList=some v->∃c',v=.ref c'/\H c'=some (.ext λh=>h.CodeRec (.ref c') qual)
section
variable {c P:Addr}{ps:Array Value}{params:Arguments}{E:Value->Shared->Prop}{Q:Value->Shared->Prop}
end
section
variable {H':Hp}{s':Shared}{P c':Addr}{params:Arguments}{pm ctv:Value}{src:List (Option Nat)}
end
section
variable {K:Frag}{x:Str}{st:Stmt}{fd:FuncData}{ps:List Str}{k:Nat}
end
end L2
namespace L2
open PySem PySem.Spec PyProof.Rows HT
variable{A:Around}{X:Cx}{s:Shared}{w:World}
section
variable {prog:Program}{E:Value->Shared->Prop}
end
theorem aq {all rest:List Stmt}{t2:TS}{G:TS->Prop}(h2:JB X rest t2)(k:∀r,JB X rest r->r=t2->∃t,JB X all t/\G t):∃t,JB X all t/\G t:=k t2 h2 rfl
theorem cxN {CX:AO}{P:Program}{K:Frag}{mg:Str->Option Value}{base:Heap}{N:List Str}{qual:Str}{scope:Scope}{f:Addr}{cd:Value}{outer:List Env}{H:Hp}{E:XK}:(qj CX P w K mg base N qual scope f cd A outer s H E).N=N:=rfl
def Vn (K:Frag):V->Option Int->Option Int->Hp->VK->Prop:=λx lo hi H Q=>∃a xs,x=.ref a/\tupQ K H a=some xs/\∀q H',tupQ K H' q=some (rN xs lo hi)->Ext K H H'->Q (.ref q) H'
def Rq (K:Frag):R2:=λx y H Q=>∃a b xs ys,x=.ref a/\y=.ref b/\tupQ K H a=some xs/\tupQ K H b=some ys/\xs≠[]/\xs.length + ys.length<=sizeLine/\∀q H',tupQ K H' q=some (xs++ys)->Ext K H H'->Q (.ref q) H'
structure XT (K:Frag)(T:Addr)(q:Str)(H H':Hp):Prop where
 YX:∃ps,H T=some (.ID ps)
 tab:∃ps,H' T=some (.ID ps)/\Nk H' ps q
 keep:∀b o,H b=some o->b≠T->H' b=some o
 mod:∀b xs,H b=none->jI K b=some xs->H' b=none
section
variable {K:Frag}{T:Addr}{q:Str}{H H1 H2:Hp}
theorem Nk.ext {ps:Array Value}(h:Nk H ps q)(x:∀b o,H b=some o->(∀ps,o≠.ID ps)->H1 b=some o):Nk H1 ps q:=⟨h.1,λp v e=>by
 obtain⟨c,rfl,hc⟩:=h.2 p v e;exact⟨c,rfl,x _ _ hc nofun⟩⟩
theorem XT.trans (x:XT K T q H H1)(y:XT K T q H1 H2):XT K T q H H2:=⟨x.YX,y.tab,λb o e n=>y.keep b o (x.keep b o e n) n,λb xs e k=>y.mod b xs (x.mod b xs e k) k⟩
theorem XT.ext (x:XT K T q H H1)(y:Ext K H1 H2):XT K T q H H2:=by
 obtain⟨ps,e,c⟩:=x.tab;exact⟨x.YX,⟨ps,y.same _ _ e,c.ext λb o h _=>y.same b o h⟩,λb o e n=>y.same _ _ (x.keep b o e n),λb xs e k=>y.mod b xs (x.mod b xs e k) k⟩
theorem XT.at (x:XT K T q H H1){b:Addr}{o:HO}(h:H b=some o)(n:∀ps,o≠.ID ps):H1 b=some o:=x.keep b o h λz=>by
 obtain⟨ps,e⟩:=x.YX;rw[z,e]at h;cases h;exact n _ rfl
theorem XT.tup (x:XT K T q H H1){a:Addr}{vs:List V}(h:tupQ K H a=some vs):tupQ K H1 a=some vs:=by
 unfold tupQ at h ⊢;split at h
 . next e=>rw[x.at e nofun];exact h
 . cases h
 . next e=>rw[x.mod a vs e h];exact h
end
end L2
namespace L2
open PySem PySem.Spec PyProof.Rows
variable{X:Cx}{fd:FuncData}{H:Hp}{ps:List Str}{pos:Pos}{sp:Sp}
def Nl (K:Frag):R2:=λx y H Q=>∃a b xs ys,x=.ref a/\y=.ref b/\tupQ K H a=some xs/\tupQ K H b=some ys/\xs.length + ys.length<=sizeLine/\∀q H',tupQ K H' q=some (xs++ys)->Ext K H H'->Q (.ref q) H'
section
variable {o e value:Expr}{f:Str}{pos' UI p:Pos}{ta tv te:TE}
theorem eK (he:JE X e ta)(hb:attributeBase e f X.env (eval e X.env)=eval e X.env:=by rfl):JE X (.Attribute e f pos) (Jb X.K ta f):=⟨Qy he.h hb⟩
theorem ie (ha:JE X o ta)(hv:JE X value tv)(hs:swapsWith value (some (.Attribute o f pos')) pos.line X.env=pure false:=by rfl):JS X (.Assign [.Attribute o f pos'] value pos) (MK X.K ta tv f):=⟨Qz ha.h hv.h hs⟩
end
section
variable {P:Program}{w:World}{K:Frag}{mg:Str->Option Value}{base:Heap}{x qual:Str}{st:Stmt}{f:Addr}{N:List Str}{k:Nat}
end
def Ku (K:Frag)(C:Addr)(sp:Sp)(jW:List V)(E:XK)(t:TA):TE:=λσ H Q=>t σ H λvs H1=>∀x dx,new K H1 x->new K H1 dx->dx≠x->
 sp (.ref x::(vs++jW)) (upd (upd H1 dx (.own x)) x (.ins C dx [])) (λv H2=>v=.bO/\Q (.ref x) H2) E
section
variable {CX:AO}{k:Nat}{f C:Addr}{jW:List V}{ds:List Value}{E:XK}{y:Str}{p:Pos}{e:Expr}{es:List Expr}{t:TA}
theorem Hu {pins:List (Addr×Obj)}{σ:St}{s:Shared}{Q:VK}{us:List Value}{vs:List V}(M:Mk X.K C f)(F:dH X.prog X.w X.K X.mg X.base CX k f fd ps sp)(hr:dB (k + 1) X.A)(hb:Binds X.K fd ps ds)(hd:Vals jW ds)
   (hx:Passes CX X E) (I:Inv X pins σ H s) (r:Vals vs us)
   (h:∀x dx,new X.K H x->new X.K H dx->dx≠x->sp (.ref x::(vs++jW)) (upd (upd H dx (.own x)) x (.ins C dx [])) (λv H2=>v=.bO/\Q (.ref x) H2) E):
   wpAny (model X.prog X.w) X.A (call (.ref C) us) (EP X pins σ Q) X.xe s:=by
 have I2:=Inv.made (C:=C) I;have hq:=h (s.heap.objs.size + 1) s.heap.objs.size ⟨I.c7.fresh (Nat.le_succ _),I2.lX af⟩ I.new (cv (i4 _));have r2:Vals (V.ref (s.heap.objs.size + 1)::(vs++jW)) (Value.ref (s.heap.objs.size + 1)::(us++ds)):=.cons rfl (r.append hd);have hl:(Value.ref (s.heap.objs.size + 1)::us++ds).length=ps.length:=by
   have e:=r2.length;rw[F.len _ _ _ _ hq]at e;exact e.symm
 refine wpAny_call (Ja (f:=f) I.qd M.makes M.init (beq_iff_eq.mp M.fn) (Kt (F.run _ X.stack _ _ ⟨Value.ref (s.heap.objs.size + 1)::us,[]⟩ (Value.ref (s.heap.objs.size + 1)::(us++ds)) _ _ E (hr.make C us [])
   (I2.QB.make C us []) (hb _ (Value.ref (s.heap.objs.size + 1)::us) I2.qd hl) r2 hq) λr s' hq'=>?_))
 cases r with
 | error e=>exact hx pins σ _ _ e s' I2 hq'
 | ok fl=>
   cases fl with
   | ret u=>
     obtain⟨v,H',I3,rv,ev,q3⟩:=I2.after hq';subst ev;exact⟨rv,⟨V.ref (s.heap.objs.size + 1),H',I3,rfl,q3⟩⟩
   | next=>exact False.elim hq'
   | brk=>exact False.elim hq'
   | cont=>exact False.elim hq'
end
theorem Ext.made {K:Frag}{x dx:Addr}{o o':HO}(n:L2.new K H x)(m:L2.new K H dx)(ne:dx≠x):Ext K H (upd (upd H dx o') x o):=
 (Ext.new m).trans (Ext.new (nF.mpr ⟨ne.symm,n⟩))
section
variable {a:Addr}{vs:List (Key×Value)}{o i:Expr}{to ti:TE}
end
end L2
namespace HT
open PySem PySem.Spec PyProof.Rows
section
variable {prog:Program}{w:World}{A:Around}{E:Value->Shared->Prop}{s:Shared}
end
end HT
namespace L2
open PySem PySem.Spec PyProof.Rows
variable{X:Cx}{ps:List Str}{pos:Pos}{P:Program}{sp:Sp}{w:World}
theorem rT {xs:List V}{us:List Value}(r:Vals xs us):∀ls:List Nat,Vals (ls.filterMap (xs[·]?)) (ls.filterMap (us[·]?))
 | []=>.nil
 | i::ls=>by
   have hl:=r.length
   by_cases h:i < us.length
   . obtain⟨x,hx,rx⟩:=EK r (i:=i) (u:=us[i]) (a9 h);rw[rh hx,rh (a9 h)];exact .cons rx (rT r ls)
   . rw[rg (uj QR),rg (uj QR)];exact rT r ls
section
variable {e:Expr}{te:TE}
end
structure jJ (P:Program)(w:World)(K:Frag)(mg:Str->Option Value)(base:Heap)(C:Addr)(m:Str)(k:Nat)(ps:List Str)(jW:List V)(sp:Sp):Prop where
 ex:∃(f:Addr) (fd:FuncData) (ds:List Value),Meth K C m f/\dH P w K mg base oH k f fd ps sp/\Binds K fd ps ds/\Vals jW ds
structure Maker (P:Program)(w:World)(K:Frag)(mg:Str->Option Value)(base:Heap)(x:Str)(k:Nat)(ps:List Str)(jW:List V)(C:Addr)(sp:Sp):Prop where
 ex:∃(f:Addr) (fd:FuncData) (ds:List Value),Mk K C f/\dH P w K mg base oH k f fd ps sp/\Binds K fd ps ds/\Vals jW ds/\mg x=some (.ref C)
section
variable {k:Nat}{C:Addr}{jW:List V}{E:XK}{m y:Str}{apos p:Pos}{o e value:Expr}{es:List Expr}{t:TA}{ta tv:TE}{pl:Sem Bool}
theorem u6 (M:jJ X.prog X.w X.K X.mg X.base C m k ps jW sp)(c:uo X.K C)(hr:dB k X.A)(ho:JE X o ta)(ha:JA X (e::es) t)
   (Cv:starEach (e::es) X.env=(false,eval e X.env)::starEach es X.env:=by rfl) (nu:(backTo pos (starEach es X.env)).any (·.1)=false:=by rfl)
   (ht:eval (.Call (.Attribute o m apos) (e::es) [] pos) X.env=(do
     let ov <- eval o X.env
     standAt apos.atName
     let (f,first) <- holding [ov] (getMethod ov m pl)
     callWith pos f first (backTo pos (starEach (e::es) X.env)) (backToKw pos (keywordEach [] X.env))):=by rfl):
   JE X (.Call (.Attribute o m apos) (e::es) [] pos) (xY C m sp jW E0 ta t):=⟨by
 obtain⟨f,fd,ds,hm,F,b,vd⟩:=M.ex;exact MO ho.h c hm F hr b vd yi ha.h Cv nu ht⟩
theorem Di (M:jJ X.prog X.w X.K X.mg X.base C m k ps jW sp)(c:uo X.K C)(hr:dB k X.A)(ho:JE X o ta)
   (ht:eval (.Call (.Attribute o m apos) [] [] pos) X.env=(do
     let ov <- eval o X.env
     standAt apos.atName
     let (f,first) <- holding [ov] (getMethod ov m pl)
     callWith pos f first (backTo pos (starEach [] X.env)) (backToKw pos (keywordEach [] X.env))):=by rfl):
   JE X (.Call (.Attribute o m apos) [] [] pos) (xY C m sp jW E0 ta wQ):=⟨by
 obtain⟨f,fd,ds,hm,F,b,vd⟩:=M.ex;exact Jc ho.h c hm F hr b vd yi ht⟩
theorem u7 (M:Maker X.prog X.w X.K X.mg X.base y k ps jW C sp)(hr:dB (k + 1) X.A)(hg:Gl X y)(ha:JA X (e::es) t)
   (wR:(y==("__debug__":Str))=false:=by decide) (he:starEach (e::es) X.env=(false,eval e X.env)::starEach es X.env:=by rfl) (nu:(backTo pos (starEach es X.env)).any (·.1)=false:=by rfl):
   JE X (.Call (.Name y p) (e::es) [] pos) (Ku X.K C sp jW E0 t):=⟨by
 intro pins s σ H Q I h;obtain⟨f,fd,ds,M,F,b,vd,mm⟩:=M.ex;refine FV (uh I hg mm ?_ wR);refine wq (h₀:=X.base) I.ok.mod.Ms M.kp (bI (ha.h pos pins s σ H _ I h) λus s1 ⟨vs,H1,I1,r,q⟩=>⟨I1.qd,?_⟩) he nu;exact Hu M F hr b vd yi I1 r q⟩
end
section
variable {K:Frag}{mg:Str->Option Value}{base:Heap}{x qual:Str}{st:Stmt}{f:Addr}{fd:FuncData}{N:List Str}{k:Nat}
end
theorem j4:ef X (.builtin "isinstance") (λxs H Q=>∃x C t b,xs=[x,.ref C]/\oE X.K H x t/\kitOne X.K t (.ref C)=some b/\Q (.bl b) H):=by
 intro pins s σ H xs us Q I r h;obtain⟨x,C,t,b,rfl,ty,e,q⟩:=h;obtain⟨u,w',rfl,ru,rw'⟩:=vals2 r;cases rw';exact xW I ru ty e λtk=>⟨.bl b,H,I.tok tk,rfl,q⟩
def Vo (K:Frag):R2:=λx y H Q=>∃l b xs,x=.ref l/\y=.ref b/\aR K H l xs/\aR K H b []/\Q (.bl (!xs.isEmpty)) H
theorem Kv (hu:X.A.units < cLine):iM X (compareOp .NotEq) (Vo X.K):=by
 intro pins s σ H x y v u Q I rx ry h;obtain⟨l,b,xs,rfl,rfl,h1,h2,q⟩:=h;cases rx;cases ry;obtain⟨bu,rv,p,_⟩:=I.list h1;obtain⟨its2,rv2,p2,_⟩:=I.list h2;cases rv2;have fin:∀k:Bool,k=(!xs.isEmpty)->EP X pins σ Q (.bool k) s:=λk e=>⟨.bl k,H,I,rfl,by rw[e];exact q⟩
 cases rv with
 | nil=>exact SeqAt.RcNeAt.lists (e:=λ_=>true) p.isList p2.isList rfl hu (λj h1=>by simp at h1) X.prog X.w X.xe _ (fin _ RR)
 | cons a b=>exact SeqAt.RcNeAt.lists_lengths p.isList p2.isList RR hu X.prog X.w X.xe _ (fin _ rfl)
section
variable {A:Around}{E:Value->Shared->Prop}{s:Shared}{S:Addr}{vs:List (Key×Value)}{ep:Nat}
end
def YY (N:Addr->Prop)(R:Hp->Prop)(H:Hp):Prop:=∃a od aA,N a/\H a=some (.sP od (.dK aA))/\R (upd H a (.dK aA))
theorem Hv (hu:X.A.units + 64 < cLine):iM X (compareOp .NotIn) (λx y H Q=>∃(a:Addr) (aA:List (Key×V)) (k:Int),y=.ref a/\x=.int k/\H a=some (.dK aA)/\Q (.bl (!(dO aA (.inl k)).isSome)) H):=by
 intro pins s σ H x y v u Q I rx ry h;obtain⟨a,aA,k,rfl,rfl,e,q⟩:=h;cases ry;obtain⟨z,hd,vs,rel,dd⟩:=Ey I.c7 (.inl e);refine wpAny_notIn_of (AV (k:=.inl k) rx) hd dd.mapOf ?_;rw[<- (rel.val (.inl k)).yf];exact⟨.bl _,H,I.tok _,rfl,q⟩
def Kw:V->List V->Hp->VK->Prop:=λx vs H Q=>∃a,x=.str a/\vs=[]/\Q (.bl (Txt.isascii a)) H
def Ky:V->List V->Hp->VK->Prop:=λx vs H Q=>∃a,x=.str a/\vs=[]/\Q (.bl (Txt.isdigit a)) H
def Nm:V->List V->Hp->VK->Prop:=λx vs H Q=>∃a b,x=.str a/\vs=[.str b]/\a.length<=sizeLine/\Q (.str (Txt.removeprefix a b)) H
def Rr (K:Frag):V->List V->Hp->VK->Prop:=λx vs H Q=>∃a b,x=.str a/\vs=[.str b]/\(b.length==0)=false/\a.length<=sizeLine/\(Txt.split a b).length<=sizeLine/\∀D,L2.new K H D->Q (.ref D) (upd H D (.lst ((Txt.split a b).map V.str)))
end L2
namespace L2
open PySem PySem.Spec PyProof.Rows PySem.W
variable{vs:List V}{us:List Value}
section
variable {prog:Program}{w:World}{A:Around}{E:Value->Shared->Prop}{s:Shared}
theorem Hw {l:Addr}{items:Array Value}{n i:Nat}{Q:List Value->Shared->Prop}(hl:s.heap.IsList l items)(hh:A.handled=none)(hi:i < n)(hn:n<=items.size + 1)(hz:items.size<=sizeLine)
   (h:∀h₂ tk,Heap.ExtBut s.heap.objs.size s.heap h₂->Q (items.toList.take i++[.ref h₂.objs.size]++(items.toList.drop i).drop (items.size + 1 - n))
     { s with heap:=h₂.push { cls:=.type "list",data:=.seq ((items.toList.drop i).take (items.size + 1 - n)).toArray },toks:=tk }):wpAny (model prog w) A (unpackItems (.ref l) n (some i)) Q E s:=by
 have jg:l≠s.heap.objs.size:=by obtain⟨o,ho,_⟩:=hl;exact cv (ag ho)
 have hll:l < s.heap.objs.size:=by obtain⟨o,ho,_⟩:=hl;exact ag ho
 unfold unpackItems;refine B1 ?_;unfold notIterableAtAll;refine B1 (NM hl.typeIs slot_list_iter.lookup ?_);refine B2 ?_;simp only[fI,FR];refine B1 (Fs (Iy hl ?_));refine B1 (Fs (kun_draw jg i 0 _ _ ⟨_,cb _ rfl,rfl,rfl⟩ (hl.push _) QR λh₁ hit₁ hs₁=>?_));have hl₁:h₁.IsList l items:=(hl.push _).extBut hs₁.extBut jg;rw[Nat.zero_add]at hit₁;have hit₁':=hit₁;obtain⟨oi,hoi,_⟩:=hit₁';have hl₁':=hl₁;obtain⟨ol,hol,_⟩:=hl₁';rw[List.drop_zero];have SQ:(items.toList.take i).length=i:=by rw[fb,dC];omega
 rw[Ee (show ¬ ((items.toList.take i).length < i) by rw[SQ];omega)];refine B1 (Fs (kun_collect (s:={ s with heap:=h₁ }) (T:="list_iterator") (.inr (.inr (.inl rfl))) (Walks.list (A:=A.in1) hh s.heap.objs.size l jg items) (λj u st=>st.1.typeIs) (k:=i) QR ⟨hit₁,hl₁⟩ (ag hoi) (ag hol) (λh₂ tk hk=>?_) hz));have YZ:(items.toList.drop i).length=items.size - i:=by rw[i5,dC]
 have Y0:(items.toList.drop i).length - (n - 1 - i)=items.size + 1 - n:=by rw[YZ];omega
 show wpAny _ _ (if (items.toList.drop i).length < n - 1 - i then _ else _) _ _ _;rw[Ee (by rw[YZ];omega)];show wpAny _ _ (newList ((items.toList.drop i).take ((items.toList.drop i).length - (n - 1 - i))) >>=λd=>pure (items.toList.take i++[d]++(items.toList.drop i).drop ((items.toList.drop i).length - (n - 1 - i)))) _ _ _;rw[Y0];have he:Heap.ExtBut s.heap.objs.size s.heap h₂:=λb o hb e=>hk b o hb (hs₁.extBut b o hb (ae _ e));exact B1 (wpAny_newList (s:={ s with heap:=h₂,toks:=tk }) (B2 (h h₂ tk he)) (by rw[fb,YZ];omega))
end
section
variable {X:Cx}{es:List Expr}{pos:Pos}{e:Expr}
theorem yF (h:Vals vs us):∀n:Nat,Vals (vs.take n) (us.take n):=by
 induction h with
 | nil=>intro n;simp;exact .nil
 | cons a b ih=>intro n;cases n with
   | zero=>exact .nil
   | succ n=>exact .cons a (ih n)
theorem rV (h:Vals vs us):∀n:Nat,Vals (vs.drop n) (us.drop n):=by
 induction h with
 | nil=>intro n;simp;exact .nil
 | cons a b ih=>intro n;cases n with
   | zero=>exact .cons a b
   | succ n=>exact ih n
theorem Kz {ws:List V}{xs:List Value}(h:Vals vs us)(h2:Vals ws xs):Vals (vs++ws) (us++xs):=by
 induction h with
 | nil=>exact h2
 | cons a b ih=>exact .cons a ih
def KA (K:Frag)(n i:Nat)(t:Ay):TG:=λv σ H Q=>∃a xs,v=.ref a/\aR K H a xs/\n<=xs.length + 1/\
 ∀D,L2.new K H D->t (xs.take i++.ref D::(xs.drop i).drop (xs.length + 1 - n)) σ (upd H D (.lst ((xs.drop i).take (xs.length + 1 - n)))) Q
theorem Rt {k:Nat}{t:Ay}{n i:Nat}(hc:X.calm=true)(h:OL X es t)(hi:i < n:=by decide)(hn:(assignEach es X.env).length=n:=by rfl)(Cv:(assignEach es X.env).findIdx? (·.1)=some i:=by rfl):JG X (.Tuple es k pos) (KA X.K n i t):=⟨by
 intro pins s σ H v u Q I r hw;obtain⟨a,xs,e1,hq,hl,hw⟩:=hw;subst e1;cases r;obtain⟨bu,rv,ht,hz⟩:=I.list hq;have ln:xs.length=bu.length:=rv.length;rw[assign_Tuple];refine B1 (Hm ?_);unfold unpack;rw[hn,Cv];refine B1 (Fs (Hw ht.isList (I.ok.hd hc) hi (by simpa[<- ln] using hl) (by simpa[<- ln] using hz) λh₂ tk hx=>?_));have I0:Inv X pins σ H { s with heap:=h₂,toks:=tk }:=I.kept (t':=tk) λb o e=>hx b o (cv (ag e)) e;have I1:Inv X pins σ (upd H h₂.objs.size (.lst ((xs.drop i).take (xs.length + 1 - n)))) { s with heap:=h₂.push { cls:=.type "list",data:=.seq ((bu.drop i).take (xs.length + 1 - n)).toArray },toks:=tk }:=
   I0.laid (t':=tk) (λb ob q=>ae _ q) (ar _) ⟨by rw[fb,i5];omega,_,0,yF (rV rv i) _,cb _ rfl⟩
 have:=h.h pins _ σ _ _ (bu.take i++[.ref h₂.objs.size]++(bu.drop i).drop (xs.length + 1 - n)) Q I1 (by
   rw[km];exact Kz (yF rv i) (.cons rfl (rV (rV rv i) _))) (hw _ ⟨I0.c7.fresh (ar _),I1.lX af⟩)
 simpa[<- ln] using this⟩
theorem Ru {t:TG}{u:Ay}(h1:JG X e t)(h2:OL X es u){p:Pos}(hs:(assignEach (.Starred e p::es) X.env).map (·.2)=assign e X.env::(assignEach es X.env).map (·.2):=by rfl):OL X (.Starred e p::es) (iy t u):=⟨by
 intro pins s σ H vs us Q I r h;obtain⟨v,vr,e1,h⟩:=h;subst e1;cases r with
 | cons r rr=>
   rw[hs];refine assignInOrder_cons (bI (h1.h pins s σ H _ _ _ I r h) λ_ s1 ⟨σ1,H1,I1,q1⟩=>?_);exact h2.h pins s1 σ1 H1 _ _ Q I1 rr q1⟩
end
end L2
namespace L2
open PySem PySem.Spec PyProof.Rows
end L2
namespace L2
open PySem PySem.Spec PyProof.Rows PySem.W PySem.AutoSeq1 PySem.MeetsSeq
variable{A:Around}{X:Cx}{s:Shared}{E:Value->Shared->Prop}
section
variable {P:Program}{w:World}{K:Frag}{x C:Addr}{ox:Obj}{od:Option Obj}
end
section
variable {pins:List (Addr×Obj)}{σ:St}{H:Hp}{x C dx:Addr}{fs:List (Str×V)}
end
end L2
namespace L2
open PySem PySem.Spec PyProof.Rows
variable{X:Cx}{DD:Ends}{H:Hp}{Q:Hp->Prop}{σ:St}{x:Str}{ta:TA}{te tl:TE}{g:TG}{tb:TS}
def Y3 (x:Str):It:=⟨λi _=>i < x.cps.size,λi H v H'=>H'=H/\∃c,x.cps[i]?=some c/\v=.str ⟨#[c]⟩,λi _=>x.cps.size<=i⟩
def OS (tl:TE):TI:=λσ H R=>tl σ H λv H1=>∃x:Str,v=.str x/\R (Y3 x) H1
def Rv:V->List V->Hp->VK->Prop:=λx vs H Q=>∃a,x=.str a/\vs=[]/\a.length<=5592405/\Q (.str (Txt.upper a)) H
section
variable {K:Frag}{tt:TT}{D:Addr}
theorem KC {src:List (Option Nat)}{Q:VK}:GU K (OS tl) src g tt te σ H Q=tl σ H (λv H1=>∃x:Str,v=.str x/\∀D,L2.new K H1 D->b7 (Y3 x) g tt te D (λH'=>Q (.ref D) H') (pick σ src) (upd H1 D (.lst []))):=rfl
theorem Hx :oq (OS tl) g tb DD σ H=tl σ H (λv H1=>∃x:Str,v=.str x/\Loop (Y3 x) g tb DD σ H1):=rfl
end
def Rx (f:Addr)(sp:Sp)(te:TE)(t:TA):TE:=λσ H Q=>te σ H λv H1=>v=.ref f/\t σ H1 λvs H2=>sp vs H2 Q E0
def Nn:V->List V->Hp->VK->Prop:=λx vs H Q=>∃a b,x=.str a/\vs=[.str b]/\Q (.bl (Txt.startswith a b)) H
def Vp (K:Frag)(x:Str):It:=⟨λi _=>i < x.cps.size,λi H v H'=>∃T c,L2.new K H T/\x.cps[i]?=some c/\v=.ref T/\H'=upd H T (.tup [.int i,.str ⟨#[c]⟩]),λi _=>i=x.cps.size⟩
def Ry (K:Frag)(tl:TA):TI:=λσ H R=>tl σ H λvs H1=>∃x:Str,vs=[.str x]/\R (Vp K x) H1
section
variable {K:Frag}
theorem Dj :oq (Ry K ta) g tb DD σ H=ta σ H (λvs H1=>∃x:Str,vs=[.str x]/\Loop (Vp K x) g tb DD σ H1):=rfl
end
section
variable {prog:Program}{w:World}{A:Around}{E:Value->Shared->Prop}{s:Shared}
end
section
variable {es:List Expr}{pos:Pos}
def Vq (K:Frag)(n:Nat)(t:Ay):TG:=λv σ H Q=>∃a xs,v=.ref a/\aR K H a xs/\xs.length=n/\t xs σ H Q
end
section
variable {K:Frag}{a b D:Addr}{xs ys:List V}{tt:TT}{n:Nat}
theorem Np (Pv:Nat->List V->St->Hp->Prop)(e1:n<=xs.length)(e2:n<=ys.length)(e3:xs.length<=n∨ys.length<=n)(h0:Pv 0 [] σ H)(hl:∀i acc σ H,i<=n->Pv i acc σ H->aR K H a xs/\aR K H b ys)
   (hs:∀i x y acc σ H T,xs[i]?=some x->ys[i]?=some y->Pv i acc σ H->L2.new K H T->g (.ref T) σ (upd H T (.tup [x,y])) λσ2 H2=>tt σ2 H2 λb H3=>if b=true then te σ2 H3 λv H4=>H4 D=some (.lst acc)/\acc.length < sizeLine/\Pv (i + 1) (acc++[v]) σ2 (upd H4 D (.lst (acc++[v]))) else Pv (i + 1) acc σ2 H3)
   (hd:∀acc σ H,Pv n acc σ H->Q H):b7 (Rj K a b) g tt te D Q σ H:=by
 refine uT (n:=n) Pv h0 (λi acc σ H hi h=>?_) (λacc σ H h=>?_) (λi acc σ H x H' hi h hy=>?_) hd
 . obtain⟨q1,q2⟩:=hl i acc σ H (fg hi) h;exact⟨xs,ys,xs[i],ys[i]'QR,q1,q2,a9 _,a9 _⟩
 . obtain⟨q1,q2⟩:=hl _ acc σ H (ar _) h;exact⟨xs,ys,q1,q2,e3⟩
 . obtain⟨q1,q2⟩:=hl i acc σ H (fg hi) h;obtain⟨T,v,u,nT,hv,hu,rfl,rfl⟩:=hy;exact hs i v u acc σ H T (hv xs q1) (hu ys q2) h nT
end
section
variable {K:Frag}
end
end L2
namespace L2
open PySem PySem.Spec PyProof PyProof.Rows
def Vr (K:Frag)(C:Addr)(D:Ends)(σ:St)(H:Hp):List (Addr×Nat×TS)->Prop
 | []=>False
 | (CF,i,ts)::r=>(exmOne K (.ref C) (.ref CF)=some true/\∀a,L2.new K H a->ts (D.gone i) (σ.set i (some (.ref a))) (upd H a (.ext (Xh a C))))∨(exmOne K (.ref C) (.ref CF)=some false/\Vr K C D σ H r)
section
variable {X:Cx}
def Vs (K:Frag)(hs:List (Addr×Nat×TS))(tb:St->XK->TS):TS:=λD σ H=>
 tb σ (λcls _ H'=>∃C,cls=.ref C/\Rp K C/\Vr K C D σ H' hs) D σ H
def tAt (σ0:St)(te:TE):TE:=λσ H Q=>σ=σ0/\te σ H Q
end
end L2
namespace L2
open PySem PySem.Spec PyProof.Rows
variable{X:Cx}{tg:Expr}{H:Hp}{σ:St}{g:TG}
def Itv (d:Addr)(od:Obj)(aA:List (Key×V)):It:=
 ⟨λi H=>H d=some (.sP od (.dK aA))/\i < aA.length,λi H x H'=>H'=H/\∃p,aA[i]?=some p/\x=p.2,λi H=>H d=some (.sP od (.dK aA))/\aA.length<=i⟩
def Y5 (K:Frag)(td:TE)(src:List (Option Nat))(g:TG)(tt:TT)(tk tv:TE)(i:Nat):TS:=λD σ H=>∀N:Addr->Prop,td σ H λx H1=>∃a aA,x=.ref a/\H1 a=some (.dK aA)/\(N a->∀od L,L2.new K (upd H1 a (.sP od (.dK aA))) L->
 Dh (Itv a od aA) g tt tk tv L (λH'=>YY N (D.nx (σ.set i (some (.ref L)))) H') (pick σ src) (upd (upd H1 a (.sP od (.dK aA))) L (.dK [])))
theorem KD {K:Frag}{tl:TE}{src:List (Option Nat)}{tt:TT}{tk tv:TE}{Q:VK}:tDc K (qh K tl) src g tt tk tv σ H Q=tl σ H (λx H1=>∃a,x=.ref a/\(∃xs,aR K H1 a xs)/\∀D,L2.new K H1 D->Dh (sQ K a) g tt tk tv D (λH'=>Q (.ref D) H') (pick σ src) (upd H1 D (.dK []))):=rfl
def Xi (K:Frag)(a:Addr)(n:Nat):It:=
 ⟨λi H=>∃xs x,aR K H a xs/\i < n/\xs[n - 1 - i]?=some x,λi H x H'=>H'=H/\∀xs,aR K H a xs->xs[n - 1 - i]?=some x,λi _=>i=n⟩
theorem KH {P:Program}{w:World}{K:Frag}(a it:Addr)(n:Nat):Turn P w K tg (Xi K a n) [it] it (λi h=>h.IsRevIter it a ((n:Int) - 1 - i)) where
 mem:=RR
 obj:=λi h st b hb=>by
   have e:b=it:=by simpa using hb
   subst e;obtain⟨o,e,c,d⟩:=st;exact⟨o,e,λv z=>by rw[d]at z;cases z⟩
 keep:=λi h h' st k=>st.at λo e=>k it RR o e
 item:=by
   intro X hP hw hK hc i pins s σ H E I hf st hg;subst hP hw hK;obtain⟨xs,x,hq,lt,hx⟩:=hg;obtain⟨bu,rv,p,hz⟩:=I.list hq;obtain⟨u,hu,ru⟩:=rv.get hx;obtain⟨f0,f1,f2,f3,f4,f5⟩:=hf it RR;have e1:(n:Int) - 1 - i=((n - 1 - i:Nat):Int):=QR
   rw[e1]at st;refine wpAny_pyNext_rev_item st p.isList (x:=u) (by simpa using hu) λh' st' sb=>?_;have e2:((n - 1 - i:Nat):Int) - 1=(n:Int) - 1 - ((i + 1:Nat):Int):=QR
   rw[e2]at st';have I1:Inv X pins σ H { s with heap:=h' }:=I.turned (t':=s.toks) (λb o hb e=>(sb.2 b hb).trans e) f0 f1 f3 f4 f5;obtain⟨o,e,c,d⟩:=id st';exact⟨u,rfl,IS (s:={ s with heap:=h' }) e c d RF ⟨x,H,I1,ru,⟨rfl,λys hy=>by rw[I.lJ hy hq];exact hx⟩,st',λb hb=>(hf b hb).1⟩⟩
 done:=by
   intro X hP hw hK hc i pins s σ H E I hf st hg;subst hP hw hK;cases hg;obtain⟨f0,f1,f2,f3,f4,f5⟩:=hf it RR;have e1:(n:Int) - 1 - (n:Int)=-1:=QR
   rw[e1]at st;exact wpAny_pyNext_rev_end (I.ok.hd hc) st λh' eb=>⟨rfl,I.turned (t':=s.toks) (λb o hb e=>eb b o hb e) f0 f1 f3 f4 f5⟩
 self:=λ_ _ _ _ _ st h=>wpAny_pyIter_revIter st h
def Vt (K:Frag)(tl:TA):TI:=λσ H R=>tl σ H λvs H1=>∃a xs,vs=[.ref a]/\aR K H1 a xs/\R (Xi K a xs.length) H1
theorem Vu {K:Frag}{l:Expr}{t:TA}{p pos:Pos}(hg:Gl X "reversed")(hm:X.mg "reversed"=none)(ha:JA X [l] t)(hs:starEach [l] X.env=(false,eval l X.env)::starEach [] X.env:=by rfl)(hk:X.K=K:=by rfl):
   JI X tg (.Call (.Name "reversed" p) [l] [] pos) (Vt K t):=⟨by
 subst hk;intro pins s σ H R I h;refine Call_ (fV I hg hm A1 (dy (bI (ha.h pos pins s σ H _ I h) λus s1 ⟨vs,H1,I1,r1,q1⟩=>?_) hs rfl));obtain⟨a,xs,rfl,hx,q⟩:=q1;obtain⟨u,rfl,ru⟩:=vals1 r1;cases ru;obtain⟨bu,rv,ht,hz⟩:=I1.list hx;refine call_reversed_list ht.isList ?_;have st:(s1.heap.push (revObj a ((bu.toArray.size:Int) - 1))).IsRevIter s1.heap.objs.size a ((xs.length:Int) - 1 - ((0:Nat):Int)):=⟨_,cb _ rfl,rfl,by
   have e:(bu.toArray.size:Int) - 1=(xs.length:Int) - 1 - ((0:Nat):Int):=by
     rw[rv.length,cp];omega
   rw[<- e];rfl⟩
 refine wpAny_pyIter_revIter (s:={ s1 with heap:=s1.heap.push (revObj a ((bu.toArray.size:Int) - 1)) }) st ⟨_,[_],_,_,H1,rfl,I1.kept (t':=s1.toks) λb o e=>ae _ e,KH a _ xs.length,st,λb hb=>?_,q⟩;have e:b=s1.heap.objs.size:=by simpa using hb
 subst e;exact I1.IQ (ar _) (I1.c7.fresh (ar _))⟩
section
variable {K:Frag}{tb:TS}{D:Ends}{a:Addr}{xs:List V}
theorem KJ {ta:TA}:oq (Vt K ta) g tb D σ H=ta σ H (λvs H1=>∃a xs,vs=[.ref a]/\aR K H1 a xs/\Loop (Xi K a xs.length) g tb D σ H1):=rfl
theorem Bo (Pv:Nat->St->Hp->Prop)(h0:Pv 0 σ H)(hl:∀i σ H,i < xs.length->Pv i σ H->aR K H a xs)
   (hs:∀i x σ H,i < xs.length->xs[xs.length - 1 - i]?=some x->Pv i σ H->g x σ H λσ2 H2=>tb { D with nx:=Pv (i + 1),ct:=Pv (i + 1),bk:=D.nx } σ2 H2) (hd:∀σ H,Pv xs.length σ H->D.nx σ H):Loop (Xi K a xs.length) g tb D σ H:=by
 refine⟨λi m σ H=>i + m=xs.length/\Pv i σ H,⟨xs.length,by omega,h0⟩,λi m σ H ⟨e,p⟩=>?_⟩
 by_cases z:i < xs.length
 . have q:=hl i σ H z p;refine .inr ⟨⟨xs,_,q,z,a9 QR⟩,Pv (i + 1),λσ' H' p'=>⟨m - 1,by omega,by omega,p'⟩,?_⟩;rintro x H' ⟨rfl,hx⟩;exact hs i x σ H' z (hx xs q) p
 . have:i=xs.length:=QR
   subst this;exact .inl ⟨rfl,hd σ H p⟩
end
section
variable {k:Nat}{f C:Addr}{fd:FuncData}{ps ks:List Str}{is:List Nat}{sp:Sp}{jW:List V}{ds:List Value}{E:XK}
end
end L2
namespace PySem
variable{A:Around}{prog:Program}{w:World}
section
variable {K:Type}[DecidableEq K]
end
section
variable {R:Result->Shared->Prop}{I:Addr}{fp wr:List Addr}{G:Array GenState->Array GenState->Prop}{n:Nat}{P:Nat->Value->Prop}{St:Nat->Shared->Prop}{K:Type}[DecidableEq K]{knd:KeyKind prog w K}
end
section
variable {K:Type}[DecidableEq K]{knd:KeyKind prog w K}{E:Value->Shared->Prop}{s:Shared}
end
end PySem
namespace L2
open PySem PySem.Spec PyProof.Rows
section
variable {X:Cx}
def Nq:PyData->Bool
 | .none=>true
 | _=>false
def Y6 (K:Frag):R2:=λx y H Q=>∃(p:Addr) (xs:List V) (ds:List PyData),x=.bO/\y=.ref p/\(aR K H p xs∨wK K H p xs)/\dU K H ds xs/\Q (.bl (ds.any Nq)) H
end
end L2
namespace L2
open PySem PySem.Spec PyProof PyProof.Rows
variable{X:Cx}{keys:List (Option Expr)}{values:List Expr}{ks:List Str}{pos:Pos}{ta:TA}
def KL (K:Frag)(C:Addr)(D:Ends)(σ:St)(H:Hp):List (Addr×TS)->Prop
 | []=>False
 | (CF,ts)::r=>(exmOne K (.ref C) (.ref CF)=some true/\ts D σ H)∨(exmOne K (.ref C) (.ref CF)=some false/\KL K C D σ H r)
def Vv (K:Frag)(hs:List (Addr×TS))(tb:St->XK->TS):TS:=λD σ H=>
 tb σ (λcls _ H'=>∃C,cls=.ref C/\Rp K C/\KL K C D σ H' hs) D σ H
def tW:List Str->List V->List (Key×V)
 | k::ks,v::vs=>(.inr k,v)::tW ks vs
 | _,_=>[]
theorem u9 {aA:List (Key×V)}{k:Key}{v:V}(h:(aA.any λkv=>decide (kv.1=k))=false):putK aA k v=aA++[(k,v)]:=by
 unfold putK;rw[h,Ee RF]
theorem vc:∀(more aA:List (Key×V)),((aA++more).map (·.1)).Nodup->zp aA more=aA++more
 | [],aA,_=>by rw[List.append_nil];rfl
 | p::r,aA,h=>by
   have e:putK aA p.1 p.2=aA++[p]:=u9 (by
     rw[List.any_eq_false];intro x hx;rw[bo,oP]at h;have:=h.2.2 x.1 (eP hx) p.1 RR;simpa using this)
   show zp (putK aA p.1 p.2) r=_;rw[e,vc r (aA++[p]) (by rw[km];exact h),km];rfl
theorem rW:∀{ks:List Str}{vs:List V},vs.length=ks.length->(tW ks vs).map (·.1)=ks.map Sum.inr
 | [],[],_=>rfl
 | k::ks,v::vs,h=>by
   show Sum.inr k::(tW ks vs).map (·.1)=_;rw[rW (by simpa using h)];rfl
 | [],_::_,h=>by simp at h
 | _::_,[],h=>by simp at h
theorem ve:∀{ks:List Str}{vs:List V},vs.length=ks.length->(tW ks vs).map (λkv=>(kV kv.1,kv.2))=(ks.map V.str).zip vs
 | [],[],_=>rfl
 | k::ks,v::vs,h=>by
   show(V.str k,v)::(tW ks vs).map (λkv=>(kV kv.1,kv.2))=_;rw[ve (by simpa using h)];rfl
 | [],_::_,h=>by simp at h
 | _::_,[],h=>by simp at h
structure JD (X:Cx)(pos:Pos)(keys:List (Option Expr))(values:List Expr)(ks:List Str)(ta:TA):Prop where
 h:∀(pins:List (Addr×Obj)) (s:Shared) (σ:St) (H:Hp) (Q:List V->Hp->Prop),Inv X pins σ H s->ta σ H Q->
   wpAny (model X.prog X.w) X.A (evalPairs (pairTrees keys values X.env pos)) (λws s'=>∃vs H',Inv X pins σ H' s'/\vs.length=ks.length/\VV ((ks.map V.str).zip vs) ws/\Q vs H') X.xe s
theorem Rz :JD X pos [] [] [] wQ:=⟨λpins s σ H Q I h=>pairTrees_nil_walk ⟨[],H,I,rfl,.nil,h⟩⟩
theorem l7 {p:Pos}{x:Str}{j:_}{v:Expr}{tv:TE}(hv:JE X v tv)(hr:JD X pos keys values ks ta):
   JD X pos (some (.Constant (.str x) j p)::keys) (v::values) (x::ks) (qi tv ta):=⟨λpins s σ H Q I h=>
 pairTrees_cons_walk (bI ((cJ (X:=X) (x:=x) (j:=j) (pos:=p)).h pins s σ H (λy H1=>y=.str x/\H1=H) I ⟨rfl,rfl⟩) λu s1 ⟨y,H1,I1,rx,q1⟩=>by
   obtain⟨rfl,rfl⟩:=q1;exact bI (hv.h pins s1 σ _ _ I1 h) λw2 s2 ⟨y,H2,I2,ry,q2⟩=>bI (hr.h pins s2 σ H2 _ I2 q2) λws s3 ⟨vs,H3,I3,l,rel,q3⟩=>⟨y::vs,H3,I3,by simp[l],.cons ⟨rx,ry⟩ rel,q3⟩)⟩
def KN (K:Frag)(ks:List Str)(ta:TA):TE:=λσ H Q=>∀p,L2.new K H p->ta σ (upd H p (.dK [])) λvs H2=>H2 p=some (.dK [])/\Q (.ref p) (upd H2 p (.dK (tW ks vs)))
theorem Dk (h:JD X pos keys values ks ta)(nd:ks.Nodup:=by decide +kernel)(zg:keys.all (·.isSome)=true:=by rfl)(hl:keys.length=values.length:=by rfl)(h0:keys≠[]:=by simp)
   (h15:keys.length<=15:=by decide) (hk:ks.length<=15:=by decide):JE X (.Dict keys values pos) (KN X.K ks ta):=⟨by
 intro pins s σ H Q I q;have hn:=I.c7.fresh (ar s.heap.objs.size);have I1:=I.laid (a:=s.heap.objs.size) (o:=.dK []) (h':=s.heap.push { cls:=.type "dict",data:=.dict #[] }) (t':=s.toks) (λ_ _ q=>ae _ q) (ar _) (AY s.heap I.big);refine wpAny_Dict_walk (knd:=c9 X.prog X.w) zg hl h0 h15 (bI (h.h pins _ σ _ _ I1 (q _ ⟨hn,I1.lX af⟩)) λws s2 ⟨vs,H2,I2,l,rel,e,q2⟩=>?_);rw[<- ve l]at rel;obtain⟨rs,c,rk⟩:=uO (P:=X.prog) (w:=X.w) rel;obtain⟨z,hd,vs0,r0,dd⟩:=OJ I2.c7 e;cases r0;refine⟨rs,c,dd,λh' dd' hs=>⟨.ref s.heap.objs.size,_,?_,rfl,q2⟩⟩;have em:zp [] (tW ks vs)=tW ks vs:=vc _ _ (by
   show((tW ks vs).map (·.1)).Nodup;rw[rW l];exact List.Pairwise.map _ (λa b (h:a≠b) e=>h (Sum.inr.inj e)) nd)
 have hz:(tW ks vs).length<=sizeLine:=by
   have:((tW ks vs).map (·.1)).length=ks.length:=by rw[rW l,ab]
   rw[ab]at this;rw[NA];omega
 have he:∃q,h'.get? s.heap.objs.size=some q:=let ⟨q,_,_,hq,_⟩:=dd';⟨q,hq⟩;have rm:=rk.merge .nil;rw[em]at rm;exact zo I2 (by rw[e];exact True.intro) hs he (Jo hz hd rm dd')⟩
def Vw (K:Frag):R2:=λx y H Q=>∃l b xs,x=.ref l/\y=.ref b/\aR K H l xs/\aR K H b []/\Q (.bl xs.isEmpty) H
theorem KO (hu:X.A.units < cLine):iM X (compareOp .Eq) (Vw X.K):=by
 intro pins s σ H x y v u Q I rx ry h;obtain⟨l,b,xs,rfl,rfl,h1,h2,q⟩:=h;cases rx;cases ry;obtain⟨bu,rv,p,_⟩:=I.list h1;obtain⟨its2,rv2,p2,_⟩:=I.list h2;cases rv2;have fin:∀k:Bool,k=xs.isEmpty->EP X pins σ Q (.bool k) s:=λk e=>⟨.bl k,H,I,rfl,by rw[e];exact q⟩
 cases rv with
 | nil=>exact SeqAt.RcAt.lists (e:=λ_=>true) p.isList p2.isList rfl hu (λj h1=>by simp at h1) X.prog X.w X.xe _ (fin _ RR)
 | cons a b=>exact SeqAt.RcAt.lists_lengths p.isList p2.isList RR hu X.prog X.w X.xe _ (fin _ rfl)
theorem OT (K:Frag){e:Expr}{f:Str}{ta:TE}(he:JE X e ta)(hk:X.K=K:=by rfl)(hb:attributeBase e f X.env (eval e X.env)=eval e X.env:=by rfl):JE X (.Attribute e f pos) (Jb K ta f):=by subst hk;exact eK he hb
end L2
namespace PySem
variable{T:Addr}{xs:Array Value}{b:Bool}{Q:Value->Shared->Prop}
abbrev vf (h:Heap)(z TI TO:Addr)(f0:Value)(b:Bool):Prop:=
 h.get? z=some { cls:=.type "zip",dict:=none,data:=.fields #[f0,.bool b,.bool false,.ref TI,.ref TO],slots:=#[] }
abbrev dJ (h:Heap)(T:Addr)(a b c:Value):Prop:=h.get? T=some { cls:=.type "tuple",data:=.seq #[a,b,c] }
section
variable {prog:Program}{w:World}{A:Around}{E:Value->Shared->Prop}{s:Shared}
theorem eX {a b c x:Value}{k:Nat}{Q:Unit->Shared->Prop}(hT:dJ s.heap T a b c)
   (h:∀h',h'.get? T=some { cls:=.type "tuple",data:=.seq ((#[a,b,c]:Array Value).setIfInBounds k x) }->Heap.SameBut T s.heap h'->Q () { s with heap:=h' }):
   wpAny (model prog w) A (updateSeq T (·.setIfInBounds k x)) Q E s:=by
 refine Kj hT rfl (h _ ?_ (vT ..));rw[gN _ hT rfl];simp[Obj.mapSeq]
structure zI (z TI TO i1 i2 i3 l1 l2 l3:Addr):Prop where
 nd:[z,TI,TO,i1,i2,i3].Nodup
 l1:l1∉[z,TO,i1,i2,i3]
 l2:l2∉[z,TO,i1,i2,i3]
 l3:l3∉[z,TO,i1,i2,i3]
theorem qB {z TI TO:Addr}{K:Bool->Shared->Prop}(hz:vf s.heap z TI TO (rawInt T) b)(h:∀h₀,vf h₀ z TI TO (rawInt T) true->Heap.SameBut z s.heap h₀->K false { s with heap:=h₀ }):
   wpAny (model prog w) A (if (Value.bool b !=Value.bool true)=true then do setField (Value.ref z) 1 (Value.bool true);pure false else pure false) K E s:=by
 cases b with
 | true=>
   rw[Ee RF];exact B2 (h s.heap hz (Heap.SameBut.refl _ _))
 | false=>
   rw[Fh RF];exact B1 (Hb hz RR λh₁ hz₁ hs₁=>B2 (h h₁ hz₁ hs₁))
theorem Hy {z TI TO i1 i2 i3 l1 l2 l3:Addr}{k:Nat}{ys zs:Array Value}{x y u:Value}{oT:Obj}(D:zI z TI TO i1 i2 i3 l1 l2 l3)
   (hz:vf s.heap z TI TO (rawInt T) b) (hT:s.heap.get? T=some oT) (qC:dJ s.heap TI (.ref i1) (.ref i2) (.ref i3))
   (h1:s.heap.IsListIter i1 l1 k) (h2:s.heap.IsListIter i2 l2 k) (h3:s.heap.IsListIter i3 l3 k) (lq:s.heap.IsList l1 xs) (oM:s.heap.IsList l2 ys) (Bp:s.heap.IsList l3 zs) (hx:xs[k]?=some x) (hy:ys[k]?=some y) (hu:zs[k]?=some u)
   (hQ:∀h',vf h' z TI TO (rawInt T) true->h'.IsListIter i1 l1 (k + 1)->h'.IsListIter i2 l2 (k + 1)->h'.IsListIter i3 l3 (k + 1)->dJ h' s.heap.objs.size x y u->h'.objs.size=s.heap.objs.size + 1->
     (∀c o,c≠z->c≠i1->c≠i2->c≠i3->s.heap.get? c=some o->h'.get? c=some o)->Q (.ref s.heap.objs.size) { s with heap:=h' }):
   wpAny (model prog w) A (Builtin.«zip.__next__» ⟨[.ref z],[]⟩) (λfin s'=>∃v,fin=.done (.ret v)/\Q v s') E s:=by
 have nd:=D.nd;have m1:=D.l1;have m2:=D.l2;have m3:=D.l3;simp only[List.nodup_cons,List.mem_cons,List.not_mem_nil,Fm,He,List.nodup_nil,Qr]at nd m1 m2 m3;show wpAny _ _ (field (.ref z) 2 >>=_) _ _ _;refine B1 (FK hz rfl (x:=.bool false) rfl ?_);show wpAny _ _ (field (.ref z) 3 >>=_) _ _ _;refine B1 (FK hz rfl (x:=.ref TI) rfl ?_);refine B1 (Hd qC rfl ?_);show wpAny _ _ (Builtin.SmallTypes.ownedTupleIsFree (.ref z) >>=_) _ _ _;refine B1 ?_;unfold Builtin.SmallTypes.ownedTupleIsFree;refine B1 (FK hz rfl (x:=rawInt T) rfl ?_);show wpAny _ _ (loadIfAlive ((T:Int).toNat) >>=_) _ _ _;rw[hV];refine B1 (tm hT ?_);simp only[sk,fI,FR];refine B1 (FK hz rfl (x:=.bool b) rfl ?_);refine qB hz λh₀ hz₀ hs₀=>?_;simp only[fI,FR];obtain⟨⟨nz1,nz2,nz3,nz4,nz5⟩,⟨nI1,nI2,nI3,nI4⟩,⟨nO1,nO2,nO3⟩,⟨n12,n13⟩,n23,_⟩:=nd;simp only[sx,List.forIn_cons,List.forIn_nil];refine B1 (B1 (B1 (Fs ?_)));show wpAny _ _ (Builtin.SmallTypes.nextOf (.ref i1) >>=_) _ _ _;refine B1 (FX (h1.extBut hs₀.extBut (Ne.symm nz3)) (lq.extBut hs₀.extBut m1.1) hx λh₁ h1₁ hs₁=>B2 (B2 ?_));refine B1 (B1 (Fs ?_));show wpAny _ _ (Builtin.SmallTypes.nextOf (.ref i2) >>=_) _ _ _;refine B1 (FX ((h2.extBut hs₀.extBut (Ne.symm nz4)).extBut hs₁.extBut (Ne.symm n12)) ((oM.extBut hs₀.extBut m2.1).extBut hs₁.extBut m2.2.2.1) hy λh₂ h2₂ hs₂=>B2 (B2 ?_));refine B1 (B1 (Fs ?_));show wpAny _ _ (Builtin.SmallTypes.nextOf (.ref i3) >>=_) _ _ _;refine B1 (FX (((h3.extBut hs₀.extBut (Ne.symm nz5)).extBut hs₁.extBut (Ne.symm n13)).extBut hs₂.extBut (Ne.symm n23)) (((Bp.extBut hs₀.extBut m3.1).extBut hs₁.extBut m3.2.2.1).extBut hs₂.extBut m3.2.2.2.1) hu λh₃ h3₃ hs₃=>B2 (B2 (B2 ?_)));show wpAny _ _ (newTuple [x,y,u] >>=λt=>ret t) _ _ _;refine B1 (PH ?_);have hsz:h₃.objs.size=s.heap.objs.size:=by rw[hs₃.1,hs₂.1,hs₁.1,hs₀.1]
 have up:∀c o,h₃.get? c=some o->(h₃.push { cls:=.type "tuple",data:=.seq #[x,y,u] }).get? c=some o:=λc o e=>ae _ e;refine B2 ⟨_,rfl,?_⟩;show Q (.ref h₃.objs.size) _;rw[hsz];refine hQ _ ?_ ?_ ?_ ?_ ?_ ?_ ?_
 . exact up _ _ (hs₃.extBut _ _ nz5 (hs₂.extBut _ _ nz4 (hs₁.extBut _ _ nz3 hz₀)))
 . exact((h1₁.extBut hs₂.extBut n12).extBut hs₃.extBut n13).at λo e=>up _ o e
 . exact(h2₂.extBut hs₃.extBut n23).at λo e=>up _ o e
 . exact h3₃.at λo e=>up _ o e
 . rw[<- hsz];exact cb _ rfl
 . rw[eC,hsz]
 . exactλc o c0 c1 c2 c3 e=>up _ _ (hs₃.extBut _ _ c3 (hs₂.extBut _ _ c2 (hs₁.extBut _ _ c1 (hs₀.extBut _ _ c0 e))))
theorem Dl {z TI TO i1 i2 i3 l1 l2 l3:Addr}{k:Nat}{ys zs:Array Value}{x y u a b c:Value}(D:zI z TI TO i1 i2 i3 l1 l2 l3)
   (hz:vf s.heap z TI TO .none false) (qC:dJ s.heap TI (.ref i1) (.ref i2) (.ref i3)) (RA:dJ s.heap TO a b c)
   (h1:s.heap.IsListIter i1 l1 k) (h2:s.heap.IsListIter i2 l2 k) (h3:s.heap.IsListIter i3 l3 k) (lq:s.heap.IsList l1 xs) (oM:s.heap.IsList l2 ys) (Bp:s.heap.IsList l3 zs) (hx:xs[k]?=some x) (hy:ys[k]?=some y) (hu:zs[k]?=some u)
   (hQ:∀h',vf h' z TI TO (rawInt s.heap.objs.size) false->dJ h' TO x y u->h'.IsListIter i1 l1 (k + 1)->h'.IsListIter i2 l2 (k + 1)->h'.IsListIter i3 l3 (k + 1)->dJ h' s.heap.objs.size x y u->h'.objs.size=s.heap.objs.size + 1->
     (∀c o,c≠z->c≠TO->c≠i1->c≠i2->c≠i3->s.heap.get? c=some o->h'.get? c=some o)->Q (.ref s.heap.objs.size) { s with heap:=h' }):
   wpAny (model prog w) A (Builtin.«zip.__next__» ⟨[.ref z],[]⟩) (λfin s'=>∃v,fin=.done (.ret v)/\Q v s') E s:=by
 have nd:=D.nd;have m1:=D.l1;have m2:=D.l2;have m3:=D.l3;simp only[List.nodup_cons,List.mem_cons,List.not_mem_nil,Fm,He,List.nodup_nil,Qr]at nd m1 m2 m3;obtain⟨⟨nz1,nz2,nz3,nz4,nz5⟩,⟨nI1,nI2,nI3,nI4⟩,⟨nO1,nO2,nO3⟩,⟨n12,n13⟩,n23,_⟩:=nd;show wpAny _ _ (field (.ref z) 2 >>=_) _ _ _;refine B1 (FK hz rfl (x:=.bool false) rfl ?_);show wpAny _ _ (field (.ref z) 3 >>=_) _ _ _;refine B1 (FK hz rfl (x:=.ref TI) rfl ?_);refine B1 (Hd qC rfl ?_);show wpAny _ _ (Builtin.SmallTypes.ownedTupleIsFree (.ref z) >>=_) _ _ _;refine B1 ?_;unfold Builtin.SmallTypes.ownedTupleIsFree;refine B1 (FK hz rfl (x:=.none) rfl (B2 ?_));simp only[Md];refine B1 (Pl ?_);refine B1 (FK hz rfl (x:=.ref TO) rfl ?_);refine B1 (Hb hz RR λh₁ hz₁ hs₁=>?_)
 replace hz₁:vf h₁ z TI TO .ellipsis false:=hz₁
 refine B1 ?_;simp only[List.zipIdx_cons,List.zipIdx_nil,List.forIn_cons,List.forIn_nil];refine B1 (B1 (wpAny_onRaise ?_));show wpAny _ _ (Builtin.SmallTypes.nextOf (.ref i1) >>=_) _ _ _;refine B1 (FX (h1.extBut hs₁.extBut (Ne.symm nz3)) (lq.extBut hs₁.extBut m1.1) hx λh₂ h1₂ hs₂=>B2 ?_);have hTO₂:dJ h₂ TO a b c:=hs₂.extBut _ _ nO1 (hs₁.extBut _ _ (Ne.symm nz2) RA);refine B1 (Hd hTO₂ rfl ?_);refine B1 (eX hTO₂ λh₃ hTO₃ hs₃=>?_)
 replace hTO₃:dJ h₃ TO x b c:=hTO₃
 refine B1 (QQ (B2 ?_));refine B1 (B1 (wpAny_onRaise ?_));show wpAny _ _ (Builtin.SmallTypes.nextOf (.ref i2) >>=_) _ _ _;refine B1 (FX (((h2.extBut hs₁.extBut (Ne.symm nz4)).extBut hs₂.extBut (Ne.symm n12)).extBut hs₃.extBut (Ne.symm nO2))
   (((oM.extBut hs₁.extBut m2.1).extBut hs₂.extBut m2.2.2.1).extBut hs₃.extBut m2.2.1) hy λh₄ h2₄ hs₄=>B2 ?_)
 have hTO₄:dJ h₄ TO x b c:=hs₄.extBut _ _ nO2 hTO₃;refine B1 (Hd hTO₄ rfl ?_);refine B1 (eX hTO₄ λh₅ hTO₅ hs₅=>?_)
 replace hTO₅:dJ h₅ TO x y c:=hTO₅
 refine B1 (QQ (B2 ?_));refine B1 (B1 (wpAny_onRaise ?_));show wpAny _ _ (Builtin.SmallTypes.nextOf (.ref i3) >>=_) _ _ _;refine B1 (FX (((((h3.extBut hs₁.extBut (Ne.symm nz5)).extBut hs₂.extBut (Ne.symm n13)).extBut hs₃.extBut (Ne.symm nO3)).extBut hs₄.extBut (Ne.symm n23)).extBut hs₅.extBut (Ne.symm nO3))
   (((((Bp.extBut hs₁.extBut m3.1).extBut hs₂.extBut m3.2.2.1).extBut hs₃.extBut m3.2.1).extBut hs₄.extBut m3.2.2.2.1).extBut hs₅.extBut m3.2.1) hu λh₆ h3₆ hs₆=>B2 ?_)
 have hTO₆:dJ h₆ TO x y c:=hs₆.extBut _ _ nO3 hTO₅;refine B1 (Hd hTO₆ rfl ?_);refine B1 (eX hTO₆ λh₇ hTO₇ hs₇=>?_)
 replace hTO₇:dJ h₇ TO x y u:=hTO₇
 refine B1 (QQ (B2 (B2 ?_)));refine B1 (Hd hTO₇ rfl ?_);refine B1 (PH ?_);have hsz:h₇.objs.size=s.heap.objs.size:=by rw[hs₇.1,hs₆.1,hs₅.1,hs₄.1,hs₃.1,hs₂.1,hs₁.1]
 have kp:∀c o,c≠z->c≠TO->c≠i1->c≠i2->c≠i3->s.heap.get? c=some o->h₇.get? c=some o:=λc o c0 c1 c2 c3 c4 e=>
   hs₇.extBut _ _ c1 (hs₆.extBut _ _ c4 (hs₅.extBut _ _ c1 (hs₄.extBut _ _ c3 (hs₃.extBut _ _ c1 (hs₂.extBut _ _ c2 (hs₁.extBut _ _ c0 e))))))
 have hz₇:vf h₇ z TI TO .ellipsis false:=hs₇.extBut _ _ nz2 (hs₆.extBut _ _ nz5 (hs₅.extBut _ _ nz2 (hs₄.extBut _ _ nz4 (hs₃.extBut _ _ nz2 (hs₂.extBut _ _ nz3 hz₁)))));have h1₇:h₇.IsListIter i1 l1 (k + 1):=((((h1₂.extBut hs₃.extBut (Ne.symm nO1)).extBut hs₄.extBut n12).extBut hs₅.extBut (Ne.symm nO1)).extBut hs₆.extBut n13).extBut hs₇.extBut (Ne.symm nO1);have h2₇:h₇.IsListIter i2 l2 (k + 1):=((h2₄.extBut hs₅.extBut (Ne.symm nO2)).extBut hs₆.extBut n23).extBut hs₇.extBut (Ne.symm nO2);have h3₇:h₇.IsListIter i3 l3 (k + 1):=h3₆.extBut hs₇.extBut (Ne.symm nO3);have Vx:z < h₇.objs.size:=ag hz₇;show wpAny _ _ (Builtin.SmallTypes.ownedTupleHandOut (.ref z) (.ref h₇.objs.size) >>=_) _ _ _;refine B1 ?_;unfold Builtin.SmallTypes.ownedTupleHandOut;have hz₈:vf (h₇.push { cls:=.type "tuple",data:=.seq #[x,y,u] }) z TI TO .ellipsis false:=ae _ hz₇;refine B1 (Hb hz₈ RR λh₉ hz₉ hs₉=>?_)
 replace hz₉:vf h₉ z TI TO (rawInt h₇.objs.size) false:=hz₉
 refine Hb hz₉ RR λg₁ hg₁ ht₁=>?_
 replace hg₁:vf g₁ z TI TO (rawInt h₇.objs.size) false:=hg₁
 have up:∀c o,c≠z->h₇.get? c=some o->g₁.get? c=some o:=λc o c1 e=>ht₁.extBut _ _ c1 (hs₉.extBut _ _ c1 (ae _ e));have hT₁:dJ g₁ h₇.objs.size x y u:=ht₁.extBut _ _ (fi Vx) (hs₉.extBut _ _ (fi Vx) (cb _ rfl));have Vy:g₁.objs.size=h₇.objs.size + 1:=by rw[ht₁.1,hs₉.1,eC]
 rw[hsz]at hg₁ hT₁ Vy;refine B2 ⟨_,rfl,?_⟩;show Q (.ref h₇.objs.size) _;rw[hsz];exact hQ g₁ hg₁ (up _ _ (Ne.symm nz2) hTO₇) (h1₇.at λo e=>up _ o (Ne.symm nz3) e) (h2₇.at λo e=>up _ o (Ne.symm nz4) e) (h3₇.at λo e=>up _ o (Ne.symm nz5) e) hT₁ Vy λc o c0 c1 c2 c3 c4 e=>up c o c0 (kp c o c0 c1 c2 c3 c4 e)
theorem KP {z TI TO i1 i2 i3 l1:Addr}{k:Nat}{oT:Obj}{Q:Fin->Shared->Prop}(hh:A.handled=none)(n1:i1≠z)(nl:l1≠z)
   (hz:vf s.heap z TI TO (rawInt T) b) (hT:s.heap.get? T=some oT) (qC:dJ s.heap TI (.ref i1) (.ref i2) (.ref i3)) (h1:s.heap.IsListIter i1 l1 k) (lq:s.heap.IsList l1 xs) (hx:xs[k]?=none)
   (hE:∀h' e,(∀c o,c≠z->c≠i1->s.heap.get? c=some o->h'.get? c=some o)->(∃o,h'.get? e=some o/\o.cls=.type "StopIteration")->E (.ref e) { s with heap:=h' }):
   wpAny (model prog w) A (Builtin.«zip.__next__» ⟨[.ref z],[]⟩) Q E s:=by
 show wpAny _ _ (field (.ref z) 2 >>=_) _ _ _;refine B1 (FK hz rfl (x:=.bool false) rfl ?_);show wpAny _ _ (field (.ref z) 3 >>=_) _ _ _;refine B1 (FK hz rfl (x:=.ref TI) rfl ?_);refine B1 (Hd qC rfl ?_);show wpAny _ _ (Builtin.SmallTypes.ownedTupleIsFree (.ref z) >>=_) _ _ _;refine B1 ?_;unfold Builtin.SmallTypes.ownedTupleIsFree;refine B1 (FK hz rfl (x:=rawInt T) rfl ?_);show wpAny _ _ (loadIfAlive ((T:Int).toNat) >>=_) _ _ _;rw[hV];refine B1 (tm hT ?_);simp only[sk,fI,FR];refine B1 (FK hz rfl (x:=.bool b) rfl ?_);refine qB hz λh₀ hz₀ hs₀=>?_;simp only[fI,FR];simp only[sx,List.forIn_cons,List.forIn_nil];refine B1 (B1 (B1 (Fs ?_)));show wpAny _ _ (Builtin.SmallTypes.nextOf (.ref i1) >>=_) _ _ _;exact B1 (wpAny_nextOf_list_end hh (h1.extBut hs₀.extBut n1) (lq.extBut hs₀.extBut nl) hx λh₁ e hs₁ he=>hE h₁ e (λc o c0 c1 x=>hs₁ _ _ c1 (hs₀.extBut _ _ c0 x)) he)
end
end PySem
namespace PySem
namespace F
theorem vg (a b c:Value):checkTypeCall "zip" ⟨[a,b,c],[]⟩=pure ():=by kernel_rfl
theorem wW (a b c:Value):checkBuiltinCall "zip.__new__" ⟨[.type "zip",a,b,c],[]⟩=pure ():=by kernel_rfl
theorem pM (a b c d:Value):argsOk "object.__init__" ⟨[a,b,c,d],[]⟩:=by
 first | exact args_of_run (by kernel_rfl) | (unfold argsOk;kernel_rfl)
theorem Dm:typeLookup (.type "zip") "__len__"=pure none:=by rw[Oy,Ki];kernel_rfl
theorem Bq:typeLookup (.type "zip") "__length_hint__"=pure none:=by rw[Oy,Ki];kernel_rfl
end F
variable{S i1 i2 l1 l2 z:Addr}{A:Around}{acc xs ys:Array Value}{b:Bool}{bad own:List Addr}{n:Nat}{row:Nat->Array Value}{At:Nat->Heap->Prop}{prog:Program}{s:Shared}{x:Value}{E Q:Value->Shared->Prop}{w:World}
abbrev Dn (l:Addr):Obj:={ cls:=.type "list_iterator",data:=.fields #[.ref l,.int 0 0] }
abbrev Xj (h:Heap)(l1 l2 l3:Addr):Heap:=((h.push (Dn l1)).push (Dn l2)).push (Dn l3)
abbrev Xk (h:Heap)(l1 l2 l3:Addr):Heap:=(Xj h l1 l2 l3).push { cls:=.type "tuple",data:=.seq #[.ref h.objs.size,.ref (h.push (Dn l1)).objs.size,.ref ((h.push (Dn l1)).push (Dn l2)).objs.size] }
abbrev Xl (h:Heap)(l1 l2 l3:Addr):Heap:=(Xk h l1 l2 l3).push { cls:=.type "tuple",data:=.seq #[.none,.none,.none] }
abbrev OU (h:Heap)(l1 l2 l3:Addr):Heap:=(Xl h l1 l2 l3).push { cls:=.type "zip",data:=.fields #[.none,.bool false,.bool false,.ref (Xj h l1 l2 l3).objs.size,.ref (Xk h l1 l2 l3).objs.size] }
theorem vh (l1 l2 l3:Addr)(xs ys zs:Array Value):
   Meets (Builtin.«zip.__new__» ⟨[.type "zip",.ref l1,.ref l2,.ref l3],[]⟩) (λ_ R s=>s.heap.IsList l1 xs/\s.heap.IsList l2 ys/\s.heap.IsList l3 zs/\
     R (.ok (.ret (.ref (Xl s.heap l1 l2 l3).objs.size))) { s with heap:=OU s.heap l1 l2 l3 }):=
 .of_wp λprog w A R s h=>by
   obtain⟨hp,g,d,tk,os⟩:=s;obtain⟨lq,oM,Bp,h⟩:=h;have adI:=sub_zip;have hL1:Heap.IsList (Shared.heap ⟨hp,g,d,tk,os⟩) l1 xs:=lq;have hL2:Heap.IsList (Shared.heap ⟨hp.push (Dn l1),g,d,tk,os⟩) l2 ys:=y7 oM _;have hL3:Heap.IsList (Shared.heap ⟨(hp.push (Dn l1)).push (Dn l2),g,d,tk,os⟩) l3 zs:=y7 (y7 Bp _) _
   wp_walk using Iy hL1,Iy hL2,Iy hL3
   exact⟨_,rfl,h⟩
theorem Dp {l3:Addr}{zs:Array Value}(lq:s.heap.IsList l1 xs)(oM:s.heap.IsList l2 ys)(Bp:s.heap.IsList l3 zs)
   (h:∀h',vf h' (s.heap.objs.size + 5) (s.heap.objs.size + 3) (s.heap.objs.size + 4) .none false->dJ h' (s.heap.objs.size + 3) (.ref s.heap.objs.size) (.ref (s.heap.objs.size + 1)) (.ref (s.heap.objs.size + 2))->
     dJ h' (s.heap.objs.size + 4) .none .none .none->h'.IsListIter s.heap.objs.size l1 0->h'.IsListIter (s.heap.objs.size + 1) l2 0->h'.IsListIter (s.heap.objs.size + 2) l3 0->h'.objs.size=s.heap.objs.size + 6->
     (∀c o,s.heap.get? c=some o->h'.get? c=some o)->Q (.ref (s.heap.objs.size + 5)) { s with heap:=h' }):
   wpAny (model prog w) A (call (.type "zip") [.ref l1,.ref l2,.ref l3]) Q E s:=by
 refine callType_new F.called_zip RF (F.vg _ _ _) (F.wW _ _ _) (λobj=>F.pM obj _ _ _) F.entry_zip_new
   (vh l1 l2 l3 xs ys zs) ⟨lq,oM,Bp,?_⟩
 have z1:(s.heap.push (Dn l1)).objs.size=s.heap.objs.size + 1:=eC ..;have z2:((s.heap.push (Dn l1)).push (Dn l2)).objs.size=s.heap.objs.size + 2:=by rw[eC,z1]
 have z3:(Xj s.heap l1 l2 l3).objs.size=s.heap.objs.size + 3:=by rw[eC,z2]
 have z4:(Xk s.heap l1 l2 l3).objs.size=s.heap.objs.size + 4:=by rw[eC,z3]
 have z5:(Xl s.heap l1 l2 l3).objs.size=s.heap.objs.size + 5:=by rw[eC,z4]
 have z6:(OU s.heap l1 l2 l3).objs.size=s.heap.objs.size + 6:=by rw[eC,z5]
 have g6:(OU s.heap l1 l2 l3).get? (Xl s.heap l1 l2 l3).objs.size=some _:=cb _ rfl;have g5:(OU s.heap l1 l2 l3).get? (Xk s.heap l1 l2 l3).objs.size=some _:=ae _ (cb _ rfl);have g4:(OU s.heap l1 l2 l3).get? (Xj s.heap l1 l2 l3).objs.size=some _:=ae _ (ae _ (cb _ rfl));have g3:(OU s.heap l1 l2 l3).get? ((s.heap.push (Dn l1)).push (Dn l2)).objs.size=some _:=ae _ (ae _ (ae _ (cb _ rfl)));have g2:(OU s.heap l1 l2 l3).get? (s.heap.push (Dn l1)).objs.size=some _:=ae _ (ae _ (ae _ (ae _ (cb _ rfl))));have g1:(OU s.heap l1 l2 l3).get? s.heap.objs.size=some _:=ae _ (ae _ (ae _ (ae _ (ae _ (cb _ rfl)))));show _/\_;rw[z3,z4,z5]at g6;rw[z1,z2,z3]at g4;rw[z4]at g5;rw[z2]at g3;rw[z1]at g2;rw[z5];exact⟨⟨_,g6,rfl⟩,h _ g6 g4 g5 ⟨_,g1,rfl,rfl⟩ ⟨_,g2,rfl,rfl⟩ ⟨_,g3,rfl,rfl⟩ z6 λc o x=>
   ae _ (ae _ (ae _ (ae _ (ae _ (ae _ x)))))⟩
structure Br (n:Nat)(z S:Addr)(own:List Addr)(row:Nat->Array Value)(At:Nat->Heap->Prop):Prop where
 typ:∀i h,At i h->∃o,h.get? z=some o/\o.cls=.type "zip"
 pD:∀i h h',At i h->(∀b o,b≠S->h.get? b=some o->h'.get? b=some o)->At i h'
 mem:S∉own
 lt:∀i h,At i h->∀c∈own,c < h.objs.size
 turn:∀(prog:Program) (w:World) (A:Around) (E:Value->Shared->Prop) (s:Shared) (i:Nat) (Q:Value->Shared->Prop),At i s.heap->S < s.heap.objs.size->i < n->
   (∀h',At (i + 1) h'->h'.get? s.heap.objs.size=some { cls:=.type "tuple",data:=.seq (row i) }->h'.objs.size=s.heap.objs.size + 1->(∀c o,c∉own->s.heap.get? c=some o->h'.get? c=some o)->Q (.ref s.heap.objs.size) { s with heap:=h' })->
   wpAny (model prog w) A (Builtin.«zip.__next__» ⟨[.ref z],[]⟩) (λfin s'=>∃v,fin=.done (.ret v)/\Q v s') E s
 stop:∀(prog:Program) (w:World) (A:Around) (E:Value->Shared->Prop) (s:Shared) (Q:Fin->Shared->Prop),A.handled=none->At n s.heap->
   (∀h' e,(∀c o,c∉own->s.heap.get? c=some o->h'.get? c=some o)->(∃o,h'.get? e=some o/\o.cls=.type "StopIteration")->E (.ref e) { s with heap:=h' })->
   wpAny (model prog w) A (Builtin.«zip.__next__» ⟨[.ref z],[]⟩) Q E s
structure Got (h0:Heap)(bad:List Addr)(S:Addr)(row:Nat->Array Value)(i:Nat)(h:Heap)(acc:Array Value):Prop where
 lst:∃c,h.get? S=some { cls:=.type "list",dict:=none,data:=.seq acc c,slots:=#[] }
 sz:acc.size=i
 it:∀(j:Nat) (v:Value),acc[j]?=some v->∃T,v=.ref T/\h0.objs.size<=T/\T∉S::bad/\h.get? T=some { cls:=.type "tuple",data:=.seq (row j) }
 nd:acc.toList.Nodup
 old:∀b o,b∉S::bad->h0.get? b=some o->h.get? b=some o
theorem Got.pD {h0 h h':Heap}{i:Nat}(g:Got h0 bad S row i h acc)(hS:S∉bad)(k:∀b o,b∉bad->h.get? b=some o->h'.get? b=some o):Got h0 bad S row i h' acc:=by
 obtain⟨c,e⟩:=g.lst;refine⟨⟨c,k S _ hS e⟩,g.sz,λj v hj=>?_,g.nd,λb o hb e=>k b o (λm=>hb (cx _ m)) (g.old b o hb e)⟩;obtain⟨T,e1,e2,e3,e4⟩:=g.it j v hj;exact⟨T,e1,e2,e3,k T _ (λm=>e3 (cx _ m)) e4⟩
theorem Got.push {h0 h h':Heap}{T:Addr}{i c:Nat}(g:Got h0 bad S row i h acc)(hT:h.get? T=some { cls:=.type "tuple",data:=.seq (row i) })(sT:h0.objs.size<=T)(nT:T∉S::bad)(fT:∀j:Nat,acc[j]?≠some (Value.ref T))
   (hS:h'.get? S=some { cls:=.type "list",dict:=none,data:=.seq (acc.push (.ref T)) c,slots:=#[] }) (k:∀b o,b≠S->h.get? b=some o->h'.get? b=some o):Got h0 bad S row (i + 1) h' (acc.push (.ref T)):=by
 refine⟨⟨c,hS⟩,by rw[Array.size_push,g.sz],λj v hj=>?_,?_,λb o hb e=>k b o (λz=>hb (z ▸ dq)) (g.old b o hb e)⟩
 . rw[Array.getElem?_push]at hj;split at hj
   . rename_i e
     rw[g.sz]at e;cases hj;rw[e];exact⟨T,rfl,sT,nT,k T _ (λz=>nT (z ▸ dq)) hT⟩
   . obtain⟨T',e1,e2,e3,e4⟩:=g.it j v hj;exact⟨T',e1,e2,e3,k T' _ (λz=>e3 (z ▸ dq)) e4⟩
 . rw[tj,oP];refine⟨g.nd,by simp,λa ha b hb z=>?_⟩;rw[cw.mp hb]at z;subst z;obtain⟨j,hj,ej⟩:=fv.mp ha;exact fT j (by rw[<- ej];simp[cq])
section
variable {R:Result->Shared->Prop}
theorem Dq {h0:Heap}(calm:A.handled=none)(W:Br n z S own row At)(Y7:n<=1000)(res:Value):
   ∀(k i:Nat) (s:Shared) (acc:Array Value),n - i=k->i<=n->At i s.heap->Got h0 own S row i s.heap acc->h0.objs.size<=s.heap.objs.size->(∀h' acc',Got h0 own S row n h' acc'->R (.ok (.ret res)) { s with heap:=h' })->
     codeAny (model prog w) A (.builtin "list.extend.loop" ⟨[.ref S,.ref z,res],[]⟩) R s:=by
 intro k;induction k with
 | zero=>
   intro i s acc hk hi OV g hsz hR;have Vz:i=n:=QR
   subst Vz;refine HI F.entry_extend_loop ?_;rw[ma pz _];show wpAny _ A.in1 (pyNext (.ref z) >>=_) _ _ s;have ht:s.TypeIs (.ref z) "zip":=W.typ _ _ OV;unfold pyNext;refine B1 (B1 (Nw (Hn (name:=Str.ofString "__next__") ht vi
     (Hk vi ht F.entry_zip_next (W.stop _ _ _ _ _ _ calm OV λh' e hk he=>?_) (F.args_zip_next_1 _)))))
   obtain⟨o,ho,hc⟩:=he;exact B1 (P2 (T:="StopIteration") (b:=true) ⟨o,ho,hc⟩ isSubtype_stop (B2 (B2 (hR h' acc (g.pD W.mem hk)))))
 | succ k ih=>
   intro i s acc hk hi OV g hsz hR;have jg:i < n:=QR
   refine HI F.entry_extend_loop ?_;rw[ma pz _];show wpAny _ A.in1 (pyNext (.ref z) >>=_) _ _ s;have ht:s.TypeIs (.ref z) "zip":=W.typ _ _ OV;unfold pyNext;obtain⟨c,eS⟩:=g.lst;refine B1 (B1 (Nw (Hn (name:=Str.ofString "__next__") ht vi
     (Hk vi ht F.entry_zip_next (W.turn _ _ _ _ _ _ _ OV (ag eS) jg λh' a1 a2 a3 a4=>B2 ?_) (F.args_zip_next_1 _)))))
   have eS':=a4 S _ W.mem eS;have lt:∀{c:Addr}{o:Obj},s.heap.get? c=some o->s.heap.objs.size≠c:=λe=>fi (ag e);show wpAny _ A.in1 (updateSeq S (·.push (.ref s.heap.objs.size)) >>=_) _ _ _;have up:∀b o,b≠S->h'.get? b=some o->(h'.update S (Obj.mapSeq (·.push (Value.ref s.heap.objs.size)))).get? b=some o:=λb o hb e=>(js _ _ (Ne.symm hb)).trans e;have sz':acc.size=i:=g.sz;have h17:n<=sizeLine:=cn Y7 RF;refine B1 (Kj eS' rfl (B2 ⟨Mo pz _,ih (i + 1) _ (acc.push (.ref s.heap.objs.size)) QR jg (W.pD _ _ _ a1 up)
     ((g.pD W.mem a4).push a2 hsz ?_ ?_ (gN _ eS' rfl) up) ?_ λh2 acc2 g2=>hR h2 acc2 g2⟩) (by rw[sz'];omega) (by show(acc.push _).size<=sizeLine + 1;rw[Array.size_push,sz'];omega))
   . intro m;rcases List.mem_cons.mp m with m | m
     . exact lt eS m
     . exact fw _ (W.lt _ _ OV _ m)
   . intro j e;obtain⟨T',e1,_,_,e4⟩:=g.it j _ e;cases e1;exact lt e4 rfl
   . show h0.objs.size<=(h'.update S _).objs.size;rw[tJ,a3];omega
end
theorem wX {TI TO:Addr}(calm:A.handled=none)(W:Br n z s.heap.objs.size own row At)(Y7:n<=1000)(h0:At 0 s.heap)(hz:vf s.heap z TI TO .none false)
   (hQ:∀h0 h' acc,(∀b o,s.heap.get? b=some o->h0.get? b=some o)->s.heap.objs.size<=h0.objs.size->Got h0 own s.heap.objs.size row n h' acc->Q (.ref s.heap.objs.size) { s with heap:=h' }):
   wpAny (model prog w) A (call (.type "list") [.ref z]) Q E s:=by
 refine callType_codes (Q₁:=λobj s₁=>obj=.ref s.heap.objs.size/\s₁={ s with heap:=s.heap.push { cls:=.type "list",data:=.seq #[] } }) F.called_list (F.typeCall_list_1 _) F.entry_list_init
   (code_list_new _ ⟨rfl,rfl⟩) λobj s₁ h₁=>?_
 obtain⟨rfl,rfl⟩:=h₁;have eS:(s.heap.push { cls:=.type "list",data:=.seq #[] }).get? s.heap.objs.size=some { cls:=.type "list",data:=.seq #[] }:=cb _ rfl;have lt:∀{c:Addr}{o:Obj},s.heap.get? c=some o->s.heap.objs.size≠c:=λe=>fi (ag e);refine⟨⟨_,eS,rfl⟩,F.args_list_init_2 _ _,?_⟩;show wpAny _ A.in1.in1 (do let old <- Builtin.List.listItems (.ref s.heap.objs.size);Builtin.List.listUpdate (.ref s.heap.objs.size) (λ_=>#[]);letGo old.toList.reverse;Builtin.List.listExtendWith (.ref s.heap.objs.size) (.ref z) .none) _ _ _;obtain⟨S,hSe⟩:∃S,s.heap.objs.size=S:=⟨_,rfl⟩
 have old:∀b o,s.heap.get? b=some o->(s.heap.push { cls:=.type "list",data:=.seq #[] }).get? b=some o:=λb o e=>ae _ e;have sz:s.heap.objs.size<=(s.heap.push { cls:=.type "list",data:=.seq #[] }).objs.size:=by rw[eC];exact Nat.le_succ _
 rw[hSe]at eS hQ lt W ⊢;generalize s.heap.push { cls:=.type "list",data:=.seq #[] }=g0 at *;have ne:∀{c:Addr}{o:Obj},s.heap.get? c=some o->c≠S:=λe z=>lt e z.symm;refine B1 ?_;unfold Builtin.List.listItems;refine B1 (Hd eS rfl (B2 ?_));show wpAny _ A.in1.in1 (updateSeq S (λ_=>#[]) >>=λ_=>letGo (#[]:Array Value).toList.reverse >>=λ_=>Builtin.List.listExtendWith (.ref S) (.ref z) .none) _ _ _;refine B1 (Kj eS rfl ?_);have e2:=gN (Obj.mapSeq (λ_=>(#[]:Array Value))) eS rfl;have o2:∀b o,b≠S->g0.get? b=some o->(g0.update S (Obj.mapSeq (λ_=>(#[]:Array Value)))).get? b=some o:=λb o hb e=>(js _ _ (Ne.symm hb)).trans e;have s2:(g0.update S (Obj.mapSeq (λ_=>(#[]:Array Value)))).objs.size=g0.objs.size:=tJ ..;refine B1 (QQ ?_);generalize g0.update S (Obj.mapSeq (λ_=>(#[]:Array Value)))=g1 at *;have VA:∀b o,b≠S->s.heap.get? b=some o->g1.get? b=some o:=λb o hb e=>o2 b o hb (old b o e);have Xg:vf g1 z TI TO .none false:=VA _ _ (ne hz) hz;have ht:Shared.TypeIs ⟨g1,s.gens,s.drawn,s.toks,s.os⟩ (.ref z) "zip":=⟨_,Xg,rfl⟩
 unfold Builtin.List.listExtendWith;refine B1 (wpAny_typeOf ht ?_);have q1:Builtin.List.listSameRef (.ref S) (.ref z)=false:=by simp[Builtin.List.listSameRef];exact lt hz
 have q2:(Value.type "zip"==Value.type "list")=false:=RF
 have q3:(Value.type "zip"==Value.type "tuple")=false:=RF
 simp only[q1,q2,q3,Bool.or_false,fI,FR];refine B1 (Qb Xg ?_);refine B1 (Fs ?_);unfold Builtin.List.listLengthHint;refine B1 (NM ht F.Dm ?_);show wpAny _ A.in1.in1 (specialOf (Value.ref z) (Str.ofString "__length_hint__") >>=_) _ _ _;refine B1 (NM ht F.Bq ?_);refine B2 ?_;show wpAny _ A.in1.in1 (rule "list.extend.makes-room" >>=λ_=>Builtin.List.listTouch (.ref S) >>=λ_=>
   again (.builtin "list.extend.loop" ⟨[.ref S,.ref z,.none],[]⟩)) _ _ _
 refine B1 (Pl ?_);refine B1 ?_;show wpAny _ A.in1.in1 (updateSeq S (·.push .none) >>=λ_=>updateSeq S (·.pop)) _ _ _;refine B1 (Kj e2 rfl ?_);have e3:=gN (Obj.mapSeq (·.push Value.none)) e2 rfl;refine Kj (hz:=by seq_fits) e3 rfl ?_;have e4:=gN (Obj.mapSeq (·.pop)) e3 rfl;have o4:∀b o,b≠S->g1.get? b=some o->((g1.update S (Obj.mapSeq (·.push Value.none))).update S (Obj.mapSeq (·.pop))).get? b=some o:=
   λb o hb e=>(js _ _ (Ne.symm hb)).trans ((js _ _ (Ne.symm hb)).trans e)
 have s4:((g1.update S (Obj.mapSeq (·.push Value.none))).update S (Obj.mapSeq (·.pop))).objs.size=g1.objs.size:=by rw[tJ,tJ]
 have k4:∀b o,b≠S->s.heap.get? b=some o->((g1.update S (Obj.mapSeq (·.push Value.none))).update S (Obj.mapSeq (·.pop))).get? b=some o:=λb o hb e=>o4 b o hb (VA b o hb e);generalize(g1.update S (Obj.mapSeq (·.push Value.none))).update S (Obj.mapSeq (·.pop))=g4 at *;exact B2 ⟨Mo pz _,Dq (h0:=g4) (A:=A.in1) calm W Y7 .none n 0 _ #[] rfl (hU _) (W.pD _ _ _ h0 k4) ⟨⟨_,e4⟩,rfl,λj v hj=>(by simp at hj),List.Pairwise.nil,λb o _ e=>e⟩ (ar _) λh' acc' g=>
   ⟨rfl,hQ g4 h' acc' (λb o e=>k4 b o (ne e) e) (by rw[s4,s2,<- hSe];exact sz) g⟩⟩
inductive At3 (z TI TO i1 i2 i3 l1 l2 l3 S:Addr)(xs ys zs:Array Value)(i:Nat)(h:Heap):Prop
 | mk (qC:dJ h TI (.ref i1) (.ref i2) (.ref i3)) (hO:∃o,h.get? TO=some o) (h1:h.IsListIter i1 l1 i) (h2:h.IsListIter i2 l2 i) (h3:h.IsListIter i3 l3 i) (lq:h.IsList l1 xs) (oM:h.IsList l2 ys) (Bp:h.IsList l3 zs)
   (hz:i=0/\vf h z TI TO .none false/\dJ h TO .none .none .none∨∃T b oT,T∉[S,z,TO,i1,i2,i3]/\vf h z TI TO (rawInt T) b/\h.get? T=some oT):At3 z TI TO i1 i2 i3 l1 l2 l3 S xs ys zs i h
theorem RB {TI TO i3 l3:Addr}{zs:Array Value}(D:zI z TI TO i1 i2 i3 l1 l2 l3)(hS:S∉[z,TI,TO,i1,i2,i3,l1,l2,l3])(hn:xs.size=n/\ys.size=n/\zs.size=n)(n0:0 < n):
   Br n z S [z,TO,i1,i2,i3] (λj=>#[xs[j]?.getD .none,ys[j]?.getD .none,zs[j]?.getD .none]) (At3 z TI TO i1 i2 i3 l1 l2 l3 S xs ys zs):=by
 have nd:=D.nd;have m1:=D.l1;have m2:=D.l2;have m3:=D.l3;simp only[List.nodup_cons,List.mem_cons,List.not_mem_nil,Fm,He,List.nodup_nil,Qr]at nd m1 m2 m3 hS;obtain⟨⟨nz1,nz2,nz3,nz4,nz5⟩,⟨nI1,nI2,nI3,nI4⟩,⟨nO1,nO2,nO3⟩,⟨n12,n13⟩,n23,_⟩:=nd;obtain⟨S1,S2,S3,S4,S5,S6,S7,S8,S9⟩:=hS;refine⟨?_,?_,?_,?_,?_,?_⟩
 . rintro i h ⟨_,_,_,_,_,_,_,_,⟨_,hz,_⟩ | ⟨T,b,oT,_,hz,_⟩⟩ <;> exact⟨_,hz,rfl⟩
 . rintro i h h' ⟨qC,⟨o,hO⟩,h1,h2,h3,lq,oM,Bp,hz⟩ k;refine⟨k _ _ (Ne.symm S2) qC,⟨o,k _ _ (Ne.symm S3) hO⟩,h1.at λo e=>k _ o (Ne.symm S4) e,h2.at λo e=>k _ o (Ne.symm S5) e,h3.at λo e=>k _ o (Ne.symm S6) e,lq.at λo e=>k _ o (Ne.symm S7) e,oM.at λo e=>k _ o (Ne.symm S8) e,Bp.at λo e=>k _ o (Ne.symm S9) e,?_⟩;rcases hz with ⟨e,hz,ht⟩ | ⟨T,b,oT,nT,hz,hT⟩
   . exact .inl ⟨e,k _ _ (Ne.symm S1) hz,k _ _ (Ne.symm S3) ht⟩
   . exact .inr ⟨T,b,oT,nT,k _ _ (Ne.symm S1) hz,k _ _ (λz=>nT (z ▸ dq)) hT⟩
 . simp only[List.mem_cons,List.not_mem_nil,Fm,He];exact⟨S1,S3,S4,S5,S6⟩
 . rintro i h ⟨_,⟨o,hO⟩,⟨_,e1,_⟩,⟨_,e2,_⟩,⟨_,e3,_⟩,_,_,_,hz⟩ c hc;have z0:z < h.objs.size:=by rcases hz with ⟨_,hz,_⟩ | ⟨T,b,oT,_,hz,_⟩ <;> exact ag hz
   simp only[List.mem_cons,List.not_mem_nil,Fm]at hc;rcases hc with rfl | rfl | rfl | rfl | rfl
   . exact z0
   . exact ag hO
   . exact ag e1
   . exact ag e2
   . exact ag e3
 . rintro prog w A E s i Q ⟨qC,⟨o,hO⟩,h1,h2,h3,lq,oM,Bp,hz⟩ lS hi hQ;have hx:xs[i]?=some (xs[i]?.getD .none):=by rw[cq QR];rfl
   have hy:ys[i]?=some (ys[i]?.getD .none):=by rw[cq QR];rfl
   have hu:zs[i]?=some (zs[i]?.getD .none):=by rw[cq QR];rfl
   have lt:∀{c:Addr}{o:Obj},s.heap.get? c=some o->s.heap.objs.size≠c:=λe=>fi (ag e);have li:∀{c l:Addr}{j:Nat},s.heap.IsListIter c l j->s.heap.objs.size≠c:=λ⟨_,e,_⟩=>lt e;rcases hz with ⟨rfl,hz,RA⟩ | ⟨T,b,oT,nT,hz,hT⟩
   . refine Dl D hz qC RA h1 h2 h3 lq oM Bp hx hy hu λh' a1 aO a2 a3 a4 a5 a6 a7=>hQ h' ?_ a5 a6 λc o hc e=>?_
     . refine⟨a7 TI _ (Ne.symm nz1) nI1 nI2 nI3 nI4 qC,⟨_,aO⟩,a2,a3,a4,lq.at λo e=>a7 _ o m1.1 m1.2.1 m1.2.2.1 m1.2.2.2.1 m1.2.2.2.2 e,oM.at λo e=>a7 _ o m2.1 m2.2.1 m2.2.2.1 m2.2.2.2.1 m2.2.2.2.2 e,Bp.at λo e=>a7 _ o m3.1 m3.2.1 m3.2.2.1 m3.2.2.2.1 m3.2.2.2.2 e,.inr ⟨s.heap.objs.size,false,_,?_,a1,a5⟩⟩;simp only[List.mem_cons,List.not_mem_nil,Fm,He];exact⟨fi lS,lt hz,lt RA,li h1,li h2,li h3⟩
     . simp only[List.mem_cons,List.not_mem_nil,Fm,He]at hc;exact a7 c o hc.1 hc.2.1 hc.2.2.1 hc.2.2.2.1 hc.2.2.2.2 e
   . have Iq:=nT;simp only[List.mem_cons,List.not_mem_nil,Fm,He]at Iq;refine Hy D hz hT qC h1 h2 h3 lq oM Bp hx hy hu λh' a1 a2 a3 a4 a5 a6 a7=>hQ h' ⟨a7 TI _ (Ne.symm nz1) nI2 nI3 nI4 qC,⟨o,a7 TO _ (Ne.symm nz2) nO1 nO2 nO3 hO⟩,a2,a3,a4,lq.at λo e=>a7 _ o m1.1 m1.2.2.1 m1.2.2.2.1 m1.2.2.2.2 e,oM.at λo e=>a7 _ o m2.1 m2.2.2.1 m2.2.2.2.1 m2.2.2.2.2 e,Bp.at λo e=>a7 _ o m3.1 m3.2.2.1 m3.2.2.2.1 m3.2.2.2.2 e,.inr ⟨T,true,oT,nT,a1,a7 T _ Iq.2.1 Iq.2.2.2.1 Iq.2.2.2.2.1 Iq.2.2.2.2.2 hT⟩⟩ a5 a6 λc o hc e=>?_;simp only[List.mem_cons,List.not_mem_nil,Fm,He]at hc;exact a7 c o hc.1 hc.2.2.1 hc.2.2.2.1 hc.2.2.2.2 e
 . rintro prog w A E s Q calm ⟨qC,_,h1,h2,h3,lq,oM,Bp,⟨rfl,_⟩ | ⟨T,b,oT,nT,hz,hT⟩⟩ hE
   . exact absurd n0 (fw _)
   . refine KP calm (Ne.symm nz3) m1.1 hz hT qC h1 lq (by rw[ka];omega) λh' e hk he=>hE h' e (λc o hc x=>?_) he;simp only[List.mem_cons,List.not_mem_nil,Fm,He]at hc;exact hk c o hc.1 hc.2.2.1 x
theorem Hz {TI TO T:Addr}{k:Nat}{y:Value}{oT:Obj}(D:ZipApart z TI TO i1 i2 l1 l2)
   (hz:vf s.heap z TI TO (rawInt T) b) (hT:s.heap.get? T=some oT) (qC:IsPair s.heap TI (.ref i1) (.ref i2))
   (h1:s.heap.IsListIter i1 l1 k) (h2:s.heap.IsListIter i2 l2 k) (lq:s.heap.IsList l1 xs) (oM:s.heap.IsList l2 ys) (hx:xs[k]?=some x) (hy:ys[k]?=some y)
   (hQ:∀h',vf h' z TI TO (rawInt T) true->h'.IsListIter i1 l1 (k + 1)->h'.IsListIter i2 l2 (k + 1)->IsPair h' s.heap.objs.size x y->h'.objs.size=s.heap.objs.size + 1->
     (∀c o,c≠z->c≠i1->c≠i2->s.heap.get? c=some o->h'.get? c=some o)->Q (.ref s.heap.objs.size) { s with heap:=h' }):
   wpAny (model prog w) A (Builtin.«zip.__next__» ⟨[.ref z],[]⟩) (λfin s'=>∃v,fin=.done (.ret v)/\Q v s') E s:=by
 show wpAny _ _ (field (.ref z) 2 >>=_) _ _ _;refine B1 (FK hz rfl (x:=.bool false) rfl ?_);show wpAny _ _ (field (.ref z) 3 >>=_) _ _ _;refine B1 (FK hz rfl (x:=.ref TI) rfl ?_);refine B1 (Hd qC rfl ?_);show wpAny _ _ (Builtin.SmallTypes.ownedTupleIsFree (.ref z) >>=_) _ _ _;refine B1 ?_;unfold Builtin.SmallTypes.ownedTupleIsFree;refine B1 (FK hz rfl (x:=rawInt T) rfl ?_);show wpAny _ _ (loadIfAlive ((T:Int).toNat) >>=_) _ _ _;rw[hV];refine B1 (tm hT ?_);simp only[sk,fI,FR];refine B1 (FK hz rfl (x:=.bool b) rfl ?_);refine qB hz λh₀ hz₀ hs₀=>?_;simp only[fI,FR];simp only[sx,List.forIn_cons,List.forIn_nil];refine B1 (B1 (B1 (Fs ?_)));show wpAny _ _ (Builtin.SmallTypes.nextOf (.ref i1) >>=_) _ _ _;refine B1 (FX (h1.extBut hs₀.extBut D.i1z) (lq.extBut hs₀.extBut D.l1z) hx λh₁ h1₁ hs₁=>B2 (B2 ?_));refine B1 (B1 (Fs ?_));show wpAny _ _ (Builtin.SmallTypes.nextOf (.ref i2) >>=_) _ _ _;refine B1 (FX ((h2.extBut hs₀.extBut D.i2z).extBut hs₁.extBut (Ne.symm D.i12)) ((oM.extBut hs₀.extBut D.l2z).extBut hs₁.extBut D.l2i1) hy λh₂ h2₂ hs₂=>B2 (B2 (B2 ?_)));show wpAny _ _ (newTuple [x,y] >>=λt=>ret t) _ _ _;refine B1 (PH ?_);have hsz:h₂.objs.size=s.heap.objs.size:=by rw[hs₂.1,hs₁.1,hs₀.1]
 have up:∀c o,h₂.get? c=some o->(h₂.push { cls:=.type "tuple",data:=.seq #[x,y] }).get? c=some o:=λc o e=>ae _ e;refine B2 ⟨_,rfl,?_⟩;show Q (.ref h₂.objs.size) _;rw[hsz];refine hQ _ ?_ ?_ ?_ ?_ ?_ ?_
 . exact up _ _ (hs₂.extBut _ _ (Ne.symm D.i2z) (hs₁.extBut _ _ (Ne.symm D.i1z) hz₀))
 . exact(h1₁.extBut hs₂.extBut D.i12).at λo e=>up _ o e
 . exact h2₂.at λo e=>up _ o e
 . rw[<- hsz];exact cb _ rfl
 . rw[eC,hsz]
 . exactλc o c0 c1 c2 e=>up _ _ (hs₂.extBut _ _ c2 (hs₁.extBut _ _ c1 (hs₀.extBut _ _ c0 e)))
theorem KQ {TI TO T:Addr}{k:Nat}{oT:Obj}{Q:Fin->Shared->Prop}(hh:A.handled=none)(D:ZipApart z TI TO i1 i2 l1 l2)
   (hz:vf s.heap z TI TO (rawInt T) b) (hT:s.heap.get? T=some oT) (qC:IsPair s.heap TI (.ref i1) (.ref i2)) (h1:s.heap.IsListIter i1 l1 k) (h2:s.heap.IsListIter i2 l2 k) (lq:s.heap.IsList l1 xs) (oM:s.heap.IsList l2 ys) (hx:xs[k]?=some x) (hy:ys[k]?=none)
   (hE:∀h' e,(∀c o,c≠z->c≠i1->c≠i2->s.heap.get? c=some o->h'.get? c=some o)->(∃o,h'.get? e=some o/\o.cls=.type "StopIteration")->E (.ref e) { s with heap:=h' }):
   wpAny (model prog w) A (Builtin.«zip.__next__» ⟨[.ref z],[]⟩) Q E s:=by
 show wpAny _ _ (field (.ref z) 2 >>=_) _ _ _;refine B1 (FK hz rfl (x:=.bool false) rfl ?_);show wpAny _ _ (field (.ref z) 3 >>=_) _ _ _;refine B1 (FK hz rfl (x:=.ref TI) rfl ?_);refine B1 (Hd qC rfl ?_);show wpAny _ _ (Builtin.SmallTypes.ownedTupleIsFree (.ref z) >>=_) _ _ _;refine B1 ?_;unfold Builtin.SmallTypes.ownedTupleIsFree;refine B1 (FK hz rfl (x:=rawInt T) rfl ?_);show wpAny _ _ (loadIfAlive ((T:Int).toNat) >>=_) _ _ _;rw[hV];refine B1 (tm hT ?_);simp only[sk,fI,FR];refine B1 (FK hz rfl (x:=.bool b) rfl ?_);refine qB hz λh₀ hz₀ hs₀=>?_;simp only[fI,FR];simp only[sx,List.forIn_cons,List.forIn_nil];refine B1 (B1 (B1 (Fs ?_)));show wpAny _ _ (Builtin.SmallTypes.nextOf (.ref i1) >>=_) _ _ _;refine B1 (FX (h1.extBut hs₀.extBut D.i1z) (lq.extBut hs₀.extBut D.l1z) hx λh₁ h1₁ hs₁=>B2 (B2 ?_));refine B1 (B1 (Fs ?_));show wpAny _ _ (Builtin.SmallTypes.nextOf (.ref i2) >>=_) _ _ _;exact B1 (wpAny_nextOf_list_end hh ((h2.extBut hs₀.extBut D.i2z).extBut hs₁.extBut (Ne.symm D.i12)) ((oM.extBut hs₀.extBut D.l2z).extBut hs₁.extBut D.l2i1) hy λh₂ e hs₂ he=>hE h₂ e (λc o c0 c1 c2 x=>hs₂ _ _ c2 (hs₁.extBut _ _ c1 (hs₀.extBut _ _ c0 x))) he)
inductive At2 (z TI TO i1 i2 l1 l2 S:Addr)(xs ys:Array Value)(i:Nat)(h:Heap):Prop
 | mk (qC:IsPair h TI (.ref i1) (.ref i2)) (hO:∃o,h.get? TO=some o) (h1:h.IsListIter i1 l1 i) (h2:h.IsListIter i2 l2 i) (lq:h.IsList l1 xs) (oM:h.IsList l2 ys)
   (hz:i=0/\vf h z TI TO .none false/\IsPair h TO .none .none∨∃T b oT,T∉[S,z,TO,i1,i2]/\vf h z TI TO (rawInt T) b/\h.get? T=some oT):At2 z TI TO i1 i2 l1 l2 S xs ys i h
theorem RC {TI TO:Addr}(D:ZipApart z TI TO i1 i2 l1 l2)(hS:S∉[z,TI,TO,i1,i2,l1,l2])(hn:xs.size=n + 1/\ys.size=n)(n0:0 < n):
   Br n z S [z,TO,i1,i2] (λj=>#[xs[j]?.getD .none,ys[j]?.getD .none]) (At2 z TI TO i1 i2 l1 l2 S xs ys):=by
 simp only[List.mem_cons,List.not_mem_nil,Fm,He]at hS;obtain⟨S1,S2,S3,S4,S5,S7,S8⟩:=hS;refine⟨?_,?_,?_,?_,?_,?_⟩
 . rintro i h ⟨_,_,_,_,_,_,⟨_,hz,_⟩ | ⟨T,b,oT,_,hz,_⟩⟩ <;> exact⟨_,hz,rfl⟩
 . rintro i h h' ⟨qC,⟨o,hO⟩,h1,h2,lq,oM,hz⟩ k;refine⟨k _ _ (Ne.symm S2) qC,⟨o,k _ _ (Ne.symm S3) hO⟩,h1.at λo e=>k _ o (Ne.symm S4) e,h2.at λo e=>k _ o (Ne.symm S5) e,lq.at λo e=>k _ o (Ne.symm S7) e,oM.at λo e=>k _ o (Ne.symm S8) e,?_⟩;rcases hz with ⟨e,hz,ht⟩ | ⟨T,b,oT,nT,hz,hT⟩
   . exact .inl ⟨e,k _ _ (Ne.symm S1) hz,k _ _ (Ne.symm S3) ht⟩
   . exact .inr ⟨T,b,oT,nT,k _ _ (Ne.symm S1) hz,k _ _ (λz=>nT (z ▸ dq)) hT⟩
 . simp only[List.mem_cons,List.not_mem_nil,Fm,He];exact⟨S1,S3,S4,S5⟩
 . rintro i h ⟨_,⟨o,hO⟩,⟨_,e1,_⟩,⟨_,e2,_⟩,_,_,hz⟩ c hc;have z0:z < h.objs.size:=by rcases hz with ⟨_,hz,_⟩ | ⟨T,b,oT,_,hz,_⟩ <;> exact ag hz
   simp only[List.mem_cons,List.not_mem_nil,Fm]at hc;rcases hc with rfl | rfl | rfl | rfl
   . exact z0
   . exact ag hO
   . exact ag e1
   . exact ag e2
 . rintro prog w A E s i Q ⟨qC,⟨o,hO⟩,h1,h2,lq,oM,hz⟩ lS hi hQ;have hx:xs[i]?=some (xs[i]?.getD .none):=by rw[cq QR];rfl
   have hy:ys[i]?=some (ys[i]?.getD .none):=by rw[cq QR];rfl
   have lt:∀{c:Addr}{o:Obj},s.heap.get? c=some o->s.heap.objs.size≠c:=λe=>fi (ag e);have li:∀{c l:Addr}{j:Nat},s.heap.IsListIter c l j->s.heap.objs.size≠c:=λ⟨_,e,_⟩=>lt e;rcases hz with ⟨rfl,hz,RA⟩ | ⟨T,b,oT,nT,hz,hT⟩
   . refine zip_next_item D hz qC RA h1 h2 lq oM hx hy λh' a1 aO a2 a3 a5 a6 a7=>hQ h' ?_ a5 a6 λc o hc e=>?_
     . refine⟨a7 TI _ D.TIz D.TITO D.TIi1 D.TIi2 qC,⟨_,aO⟩,a2,a3,lq.at λo e=>a7 _ o D.l1z D.l1TO D.l1i1 D.l1i2 e,oM.at λo e=>a7 _ o D.l2z D.l2TO D.l2i1 D.l2i2 e,.inr ⟨s.heap.objs.size,false,_,?_,a1,a5⟩⟩;simp only[List.mem_cons,List.not_mem_nil,Fm,He];exact⟨fi lS,lt hz,lt RA,li h1,li h2⟩
     . simp only[List.mem_cons,List.not_mem_nil,Fm,He]at hc;exact a7 c o hc.1 hc.2.1 hc.2.2.1 hc.2.2.2 e
   . have Iq:=nT;simp only[List.mem_cons,List.not_mem_nil,Fm,He]at Iq;refine Hz D hz hT qC h1 h2 lq oM hx hy λh' a1 a2 a3 a5 a6 a7=>hQ h' ⟨a7 TI _ D.TIz D.TIi1 D.TIi2 qC,⟨o,a7 TO _ D.TOz D.TOi1 D.TOi2 hO⟩,a2,a3,lq.at λo e=>a7 _ o D.l1z D.l1i1 D.l1i2 e,oM.at λo e=>a7 _ o D.l2z D.l2i1 D.l2i2 e,.inr ⟨T,true,oT,nT,a1,a7 T _ Iq.2.1 Iq.2.2.2.1 Iq.2.2.2.2 hT⟩⟩ a5 a6 λc o hc e=>?_;simp only[List.mem_cons,List.not_mem_nil,Fm,He]at hc;exact a7 c o hc.1 hc.2.2.1 hc.2.2.2 e
 . rintro prog w A E s Q calm ⟨qC,_,h1,h2,lq,oM,⟨rfl,_⟩ | ⟨T,b,oT,nT,hz,hT⟩⟩ hE
   . exact absurd n0 (fw _)
   . refine KQ calm D hz hT qC h1 h2 lq oM (cq QR) (by rw[ka];omega) λh' e hk he=>hE h' e (λc o hc x=>?_) he;simp only[List.mem_cons,List.not_mem_nil,Fm,He]at hc;exact hk c o hc.1 hc.2.2.1 hc.2.2.2 x
end PySem
namespace L2
open PySem PySem.Spec PyProof PyProof.Rows
variable{C f:Addr}{W:Addr->Option HO}{A:Around}{X:Cx}{D:Ends}{e tg:Expr}{fd:FuncData}{base:Heap}{H:Hp}{i:Int}{g:Int->Int->V}{pins:List (Addr×Obj)}{src:List (Option Nat)}{es:List Expr}{N ps:List Str}{xs:List V}{us:List Value}{p:List Value->Prop}{j n:Nat}{Dy HG K2 Nz R3 jf mz qF qf rD tY ux x0 x1 x4 x5 x6 x7 x8 x9:Option V}{pos:Pos}{P:Program}{sc:Scope}{sp:Sp}{σ:St}{s0:Stmt}{m:Str}{mg:Str->Option Value}{ta:TA}{te:TE}{tb:TS}{α:Type}{x:V}{Q:VK}{w:World}
def wY (H:Hp)(W:Addr->Option HO):Hp:=λa=>match W a with
 | some o=>some o
 | none=>H a
section
variable {s:Shared}{h':Heap}
theorem l9 {a:Addr}(h:W a=none):wY H W a=H a:=by unfold wY;rw[h]
theorem qD {a:Addr}{o:HO}(h:W a=some o):wY H W a=some o:=by unfold wY;rw[h]
theorem Inv.wY {t':Nat}(I:Inv X pins σ H s)(k:∀b u,s.heap.get? b=some u->h'.get? b=some u)(hp:∀a o,W a=some o->s.heap.objs.size<=a)(new:∀a o,W a=some o->cO X.prog X.w (L2.wY H W) h' a o):
   Inv X pins σ (L2.wY H W) { s with heap:=h',toks:=t' }:=by
 have fr:∀a o,H a=some o->W a=none:=λa o e=>by
   cases q:W a with
   | none=>rfl
   | some u=>rw[I.c7.fresh (hp a u q)]at e;cases e
 have old:∀a o,H a=some o->L2.wY H W a=some o:=λa o e=>by rw[l9 (fr a o e)];exact e
 refine I.un ⟨λb u q _ _ _=>k b u q,λb u q _ _ _=>⟨u.slots,k b u q⟩,λb u q n _=>?_,λb u q _=>⟨u,k b u q⟩,λb xs q=>old b _ q,λb u xs q=>old b _ q,λb ps q=>⟨#[],by rw[old b _ q];simp⟩⟩ (λb u e=>?_)
 . have:W b=none:=by
     cases w:W b with
     | none=>rfl
     | some v=>exact absurd (ag q) (Nat.not_lt.mpr (hp b v w))
   rw[l9 this];exact n
 . cases w:W b with
   | some v=>
     rw[qD w]at e;cases e;exact new b _ w
   | none=>
     rw[l9 w]at e;exact(I.c7 b u e).pD (λc v _ q=>k c v q) (λc q=>old c _ q) λc xs q=>old c _ q
end
def KR (K:Frag)(H1:Hp)(n:Nat)(rv:Nat->List V)(Q:VK):Prop:=∀(D:Addr) (L:List Addr) (H':Hp),L2.new K H1 D->L.length=n->L.Nodup->D∉L->H' D=some (.lst (L.map V.ref))->Ext K H1 H'->(∀(j:Nat) T,L[j]?=some T->L2.new K H1 T/\H' T=some (.tup (rv j)))->Q (.ref D) H'
def KS (K:Frag)(t:TA):TE:=λσ H Q=>t σ H λvs H1=>∃a b xs ys n,vs=[.ref a,.ref b]/\aR K H1 a xs/\aR K H1 b ys/\(xs.length=n + 1/\ys.length=n)/\0 < n/\n<=1000/\KR K H1 n (λj=>[xs[j]?.getD .bO,ys[j]?.getD .bO]) Q
def KU (K:Frag)(t:TA):TE:=λσ H Q=>t σ H λvs H1=>∃a b c xs ys zs n,vs=[.ref a,.ref b,.ref c]/\aR K H1 a xs/\aR K H1 b ys/\aR K H1 c zs/\(xs.length=n/\ys.length=n/\zs.length=n)/\0 < n/\n<=1000/\
 ∀(D:Addr) (L:List Addr) (H':Hp),L2.new K H1 D->L.length=n->L.Nodup->D∉L->H' D=some (.lst (L.map V.ref))->Ext K H1 H'->(∀(j:Nat) T x y z,L[j]?=some T->xs[j]?=some x->ys[j]?=some y->zs[j]?=some z->L2.new K H1 T/\H' T=some (.tup [x,y,z]))->Q (.ref D) H'
theorem RD {y z:V}(r:Vals [x,y,z] us):∃u v w',us=[u,v,w']/\RelV x u/\RelV y v/\RelV z w':=by
 cases r with
 | cons r1 r=>
   cases r with
   | cons r2 r=>
     cases r with
     | cons r3 r=>cases r;exact⟨_,_,_,rfl,r1,r2,r3⟩
theorem RE {y:V}(r:Vals [x,y] us):∃u v,us=[u,v]/\RelV x u/\RelV y v:=by
 cases r with
 | cons r1 r=>
   cases r with
   | cons r2 r=>cases r;exact⟨_,_,rfl,r1,r2⟩
theorem apart_new {a b c:Nat}(ha:a < n)(hb:b < n)(hc:c < n):zI (n + 5) (n + 3) (n + 4) n (n + 1) (n + 2) a b c:=by
 refine⟨show([n + 5,n + 3,n + 4,n,n + 1,n + 2]:List Nat).Nodup from ?_,show a∉([n + 5,n + 4,n,n + 1,n + 2]:List Nat) from ?_,show b∉([n + 5,n + 4,n,n + 1,n + 2]:List Nat) from ?_,show c∉([n + 5,n + 4,n,n + 1,n + 2]:List Nat) from ?_⟩
 . simp
 all_goals
   simp only[List.mem_cons,List.not_mem_nil,Fm,He];omega
theorem Dr {a b:Nat}(ha:a < n)(hb:b < n):ZipApart (n + 4) (n + 2) (n + 3) n (n + 1) a b:=
 by constructor <;> (refine show @Ne Nat _ _ from ?_;omega)
theorem Nr {m a b c:Nat}(ha:a < m)(hb:b < m)(hc:c < m):m + 6∉([m + 5,m + 3,m + 4,m,m + 1,m + 2,a,b,c]:List Nat):=by
 simp only[List.mem_cons,List.not_mem_nil,Fm,He];omega
theorem Nu {m a b:Nat}(ha:a < m)(hb:b < m):m + 5∉([m + 4,m + 2,m + 3,m,m + 1,a,b]:List Nat):=by
 simp only[List.mem_cons,List.not_mem_nil,Fm,He];omega
def zW (D:Addr)(L:List Addr)(rv:Nat->List V):Addr->Option HO:=λa=>if a=D then some (.lst (L.map V.ref)) else
 if L.idxOf a < L.length then some (.tup (rv (L.idxOf a))) else none
theorem ET:∀l:List Value,(∀v∈l,∃T,v=Value.ref T)->∃L:List Addr,l=L.map Value.ref
 | [],_=>⟨[],rfl⟩
 | v::l,h=>by
   obtain⟨T,rfl⟩:=h v dq;obtain⟨L,rfl⟩:=ET l λv hv=>h v (cx _ hv);exact⟨T::L,rfl⟩
theorem yH:∀l:List Addr,Vals (l.map V.ref) (l.map Value.ref)
 | []=>.nil
 | _::l=>.cons rfl (yH l)
theorem VB {H1:Hp}{s1:Shared}{h2:Heap}{z TI TO:Addr}{own:List Addr}{row:Nat->Array Value}{At:Nat->Heap->Prop}{E:Value->Shared->Prop}{R:Value->Shared->Prop}(rv:Nat->List V)(I1:Inv X pins σ H1 s1)(calm:A.handled=none)(kp:∀c o,s1.heap.get? c=some o->h2.get? c=some o)(le:s1.heap.objs.size<=h2.objs.size)
   (big:∀c∈own,s1.heap.objs.size<=c) (W:Br n z h2.objs.size own row At) (hn:n<=1000) (h0:At 0 h2) (hz:vf h2 z TI TO .none false) (hr:∀j,j < n->(rv j).length<=sizeLine/\Vals (rv j) (row j).toList) (q:KR X.K H1 n rv Q)
   (hR:∀v s' H',Inv X pins σ H' s'->Q (.ref v) H'->R (.ref v) s'):wpAny (model X.prog X.w) A (call (.type "list") [.ref z]) R E { s1 with heap:=h2 }:=by
 refine wX (s:={ s1 with heap:=h2 }) calm W hn h0 hz λg0 h' acc k0 sz0 got=>?_;have le:s1.heap.objs.size<=({ s1 with heap:=h2 }:Shared).heap.objs.size:=le;obtain⟨D,hD⟩:∃D,D=({ s1 with heap:=h2 }:Shared).heap.objs.size:=⟨_,rfl⟩
 rw[<- hD]at got sz0 le ⊢;obtain⟨L,hL⟩:=ET acc.toList λv hv=>by
   obtain⟨j,hj,ej⟩:=fv.mp hv;obtain⟨T,e,_⟩:=got.it j v (by rw[<- ej];simp at hj;simp[cq,hj]);exact⟨T,e⟩
 have RG:L.length=n:=by
   have:acc.toList.length=n:=by rw[dC];exact got.sz
   rw[hL,ab]at this;exact this
 have Y8:L.Nodup:=by
   have:=got.nd;rw[hL]at this;exact List.Pairwise.of_map Value.ref (λa b h z=>h (by rw[z])) this
 have Y9:∀(j:Nat) T,L[j]?=some T->g0.objs.size<=T/\T∉D::own/\h'.get? T=some { cls:=.type "tuple",data:=.seq (row j) }:=by
   intro j T hj;have:acc[j]?=some (Value.ref T):=by
     rw[<- ui,hL,bb,hj];rfl
   obtain⟨T',e,z1⟩:=got.it j _ this;cases e;exact z1
 have DL:D∉L:=λm=>by
   obtain⟨j,hj⟩:=mx m;exact(Y9 j D hj).2.1 dq
 have Za:∀T∈L,s1.heap.objs.size<=T:=λT m=>by
   obtain⟨j,hj⟩:=mx m;exact cn (cn le sz0) (Y9 j T hj).1
 have wT:∀(j:Nat) T,L[j]?=some T->zW D L rv T=some (.tup (rv j)):=by
   intro j T hj;have ne:T≠D:=λe=>DL (e ▸ ba hj);obtain⟨jg,e⟩:=bc.mp hj;have ix:L.idxOf T=j:=by
     rw[<- e];exact Y8.idxOf_getElem j jg
   unfold zW;rw[Ee ne,ix,Fh jg]
 have wI:∀a o,zW D L rv a=some o->a=D/\o=.lst (L.map V.ref)∨∃j:Nat,L[j]?=some a/\o=.tup (rv j):=by
   intro a o e;unfold zW at e;split at e
   . rename_i h;cases e;exact .inl ⟨h,rfl⟩
   split at e
   . rename_i jg
     cases e;refine .inr ⟨L.idxOf a,?_,rfl⟩;rw[a9 jg];exact congrArg some (List.getElem_idxOf jg)
   . cases e
 have VC:∀a o,zW D L rv a=some o->s1.heap.objs.size<=a:=λa o e=>by
   rcases wI a o e with ⟨rfl,_⟩ | ⟨j,hj,_⟩
   . exact le
   . exact Za a (ba hj)
 have wD:zW D L rv D=some (.lst (L.map V.ref)):=Fh rfl;have I2:Inv X pins σ (L2.wY H1 (zW D L rv)) { s1 with heap:=h',toks:=s1.toks }:=by
   refine I1.wY (t':=s1.toks) (λb o e=>got.old b o (λm=>?_) (k0 b o (kp b o e))) VC λa o e=>?_
   . have l1:=ag e;rcases List.mem_cons.mp m with m | m
     . rw[m]at l1;exact fw _ (bp l1 le)
     . exact fw _ (bp l1 (big b m))
   . rcases wI a o e with ⟨rfl,rfl⟩ | ⟨j,hj,rfl⟩
     . obtain⟨m,em⟩:=got.lst;refine⟨?_,acc.toList,m,?_,by simpa using em⟩
       . rw[ab,RG];exact cn hn RF
       . rw[hL];exact yH L
     . obtain⟨_,_,tr⟩:=Y9 j a hj;have SR:=hr j (RG ▸ (bc.mp hj).1);exact⟨SR.1,_,SR.2,_,tr,rfl,_,rfl⟩
 have Nv:∀a o,zW D L rv a=some o->L2.new X.K H1 a:=λa o e=>⟨I1.c7.fresh (VC a o e),I2.lX (qD e)⟩
 refine hR D _ _ I2 (q D L _ (Nv D _ wD) RG Y8 DL (qD wD) ⟨λg o e=>?_,λg ws e m=>?_⟩ λj T hj=>⟨Nv T _ (wT j T hj),qD (wT j T hj)⟩)
 . cases w:zW D L rv g with
   | none=>rw[l9 w];exact e
   | some o=>rw[(Nv g o w).1]at e;cases e
 . cases w:zW D L rv g with
   | none=>rw[l9 w];exact e
   | some o=>rw[(Nv g o w).2]at m;cases m
theorem mh {is:List Value}(v:Vals xs is)(h:j < xs.length):RelV (xs[j]?.getD .bO) (is.toArray[j]?.getD .none):=by
 obtain⟨u,w,r⟩:=v.get (a9 h);rw[a9 h,me,w];exact r
theorem HA {l1 l2 l3:Expr}{t:TA}{p p2 jd:Pos}(hc:X.calm=true)(hg:Gl X "list")(hm:X.mg "list"=none)(Vk:Gl X "zip")(Vl:X.mg "zip"=none)(ha:JA X [l1,l2,l3] t)
   (he:starEach [.Call (.Name "zip" p2) [l1,l2,l3] [] jd] X.env=(false,eval (.Call (.Name "zip" p2) [l1,l2,l3] [] jd) X.env)::starEach [] X.env:=by rfl)
   (Hs:starEach [l1,l2,l3] X.env=(false,eval l1 X.env)::starEach [l2,l3] X.env:=by rfl) (SS:(backTo jd (starEach [l2,l3] X.env)).any (·.1)=false:=by rfl):
   JE X (.Call (.Name "list" p) [.Call (.Name "zip" p2) [l1,l2,l3] [] jd] [] pos) (KU X.K t):=⟨by
 intro pins s σ H Q I h;refine FV (fV I hg hm cE (dy ?_ he rfl));rw[he];show wpAny _ _ (spliced ((false,eval (.Call (.Name "zip" p2) [l1,l2,l3] [] jd) X.env)::backTo pos (starEach [] X.env))) _ _ s;refine Calls.spliced_cons ?_;refine FV (fV I Vk Vl CW (dy (bI (ha.h jd pins s σ H _ I h) λus s1 ⟨vs,H1,I1,r1,q1⟩=>?_) Hs SS));obtain⟨a,b,c,xs,ys,zs,n,rfl,hx,hy,hz,⟨n1,n2,n3⟩,n0,hn,q⟩:=q1;obtain⟨u,v,w',rfl,ru,rv,rw'⟩:=RD r1;cases ru;cases rv;cases rw';obtain⟨is1,v1,t1,_⟩:=I1.list hx;obtain⟨is2,v2,t2,_⟩:=I1.list hy;obtain⟨is3,v3,t3,_⟩:=I1.list hz;have lt:∀{a:Addr}{l:Array Value},s1.heap.IsList a l->a < s1.heap.objs.size:=λ⟨_,e,_⟩=>ag e;have la:=lt t1.isList;have lb:=lt t2.isList;have lc:=lt t3.isList;refine Dp t1.isList t2.isList t3.isList λh2 g1 g2 g3 g4 g5 g6 sz kp=>?_;refine Calls.spliced_nil ?_;have yJ:∀{a:Addr}{l:Array Value},s1.heap.IsList a l->h2.IsList a l:=λx=>x.at λo e=>kp _ o e;have e1:is1.length=n:=by rw[<- v1.length,n1]
 have e2:is2.length=n:=by rw[<- v2.length,n2]
 have e3:is3.length=n:=by rw[<- v3.length,n3]
 obtain⟨m,hm⟩:∃m:Nat,m=s1.heap.objs.size:=⟨_,rfl⟩
 rw[<- hm]at g1 g2 g3 g4 g5 g6 sz la lb lc ⊢;have D:=apart_new la lb lc;have nS:h2.objs.size∉[m + 5,m + 3,m + 4,m,m + 1,m + 2,a,b,c]:=by
   rw[sz];exact Nr la lb lc
 have W:=RB (n:=n) (xs:=is1.toArray) (ys:=is2.toArray) (zs:=is3.toArray) D nS ⟨by simpa using e1,by simpa using e2,by simpa using e3⟩ n0;refine VB (λj=>[xs[j]?.getD .bO,ys[j]?.getD .bO,zs[j]?.getD .bO]) I1 (I1.ok.hd hc) kp (by rw[sz,hm];exact gL _ _) (λc hc=>?_) W hn ⟨g2,⟨_,g3⟩,g4,g5,g6,yJ t1.isList,yJ t2.isList,yJ t3.isList,.inl ⟨rfl,g1,g3⟩⟩ g1 (λj hj=>⟨by show(3:Nat)<=sizeLine;decide,.cons (mh v1 QR) (.cons (mh v2 QR) (.cons (mh v3 QR) .nil))⟩) (λD L H' a1 a2 a3 a4 a5 a6 a7=>q D L H' a1 a2 a3 a4 a5 a6 λj T x y z hj h1 h2 h3=>?_) λv s' H' i q=>⟨.ref v,H',i,rfl,q⟩
 . simp only[List.mem_cons,List.not_mem_nil,Fm]at hc;rw[<- hm];rcases hc with rfl | rfl | rfl | rfl | rfl <;> first | exact gL _ _ | exact ar _
 . have:=a7 j T hj;simp only[h1,h2,h3,Option.getD_some]at this;exact this⟩
theorem HB {l1 l2:Expr}{t:TA}{p p2 jd:Pos}(hc:X.calm=true)(hg:Gl X "list")(hm:X.mg "list"=none)(Vk:Gl X "zip")(Vl:X.mg "zip"=none)(ha:JA X [l1,l2] t)
   (he:starEach [.Call (.Name "zip" p2) [l1,l2] [] jd] X.env=(false,eval (.Call (.Name "zip" p2) [l1,l2] [] jd) X.env)::starEach [] X.env:=by rfl)
   (Hs:starEach [l1,l2] X.env=(false,eval l1 X.env)::starEach [l2] X.env:=by rfl) (SS:(backTo jd (starEach [l2] X.env)).any (·.1)=false:=by rfl):
   JE X (.Call (.Name "list" p) [.Call (.Name "zip" p2) [l1,l2] [] jd] [] pos) (KS X.K t):=⟨by
 intro pins s σ H Q I h;refine FV (fV I hg hm cE (dy ?_ he rfl));rw[he];show wpAny _ _ (spliced ((false,eval (.Call (.Name "zip" p2) [l1,l2] [] jd) X.env)::backTo pos (starEach [] X.env))) _ _ s;refine Calls.spliced_cons ?_;refine FV (fV I Vk Vl CW (dy (bI (ha.h jd pins s σ H _ I h) λus s1 ⟨vs,H1,I1,r1,q1⟩=>?_) Hs SS));obtain⟨a,b,xs,ys,n,rfl,hx,hy,⟨n1,n2⟩,n0,hn,q⟩:=q1;obtain⟨u,v,rfl,ru,rv⟩:=RE r1;cases ru;cases rv;obtain⟨is1,v1,t1,_⟩:=I1.list hx;obtain⟨is2,v2,t2,_⟩:=I1.list hy;have lt:∀{a:Addr}{l:Array Value},s1.heap.IsList a l->a < s1.heap.objs.size:=λ⟨_,e,_⟩=>ag e;have la:=lt t1.isList;have lb:=lt t2.isList;refine call_zip_2 t1.isList t2.isList λh2 g1 g2 g3 g4 g5 sz kp=>?_;refine Calls.spliced_nil ?_;have yJ:∀{a:Addr}{l:Array Value},s1.heap.IsList a l->h2.IsList a l:=λx=>x.at λo e=>kp _ o e;have e1:is1.length=n + 1:=by rw[<- v1.length,n1]
 have e2:is2.length=n:=by rw[<- v2.length,n2]
 obtain⟨m,hm⟩:∃m:Nat,m=s1.heap.objs.size:=⟨_,rfl⟩
 rw[<- hm]at g1 g2 g3 g4 g5 sz la lb ⊢;have D:=Dr la lb;have nS:h2.objs.size∉[m + 4,m + 2,m + 3,m,m + 1,a,b]:=by
   rw[sz];exact Nu la lb
 have W:=RC (n:=n) (xs:=is1.toArray) (ys:=is2.toArray) D nS ⟨by simpa using e1,by simpa using e2⟩ n0;refine VB (λj=>[xs[j]?.getD .bO,ys[j]?.getD .bO]) I1 (I1.ok.hd hc) kp (by rw[sz,hm];exact gL _ _) (λc hc=>?_) W hn ⟨g2,⟨_,g3⟩,g4,g5,yJ t1.isList,yJ t2.isList,.inl ⟨rfl,g1,g3⟩⟩ g1 (λj hj=>⟨by show(2:Nat)<=sizeLine;decide,.cons (mh v1 QR) (.cons (mh v2 QR) .nil)⟩) q λv s' H' i q=>⟨.ref v,H',i,rfl,q⟩
 simp only[List.mem_cons,List.not_mem_nil,Fm]at hc;rw[<- hm];rcases hc with rfl | rfl | rfl | rfl <;> first | exact gL _ _ | exact ar _⟩
section
variable {K:Frag}{g:TG}{a:Addr}
theorem HD:oq (ER K ta) g tb D σ H=ta σ H (λvs H1=>∃a,vs=[.ref a]/\(∃xs,aR K H1 a xs)/\Loop (Mh K a) g tb D σ H1):=rfl
theorem HE (Pv:Nat->St->Hp->Prop)(h0:Pv 0 σ H)(hl:∀i σ H,i<=xs.length->Pv i σ H->aR K H a xs)
   (hs:∀i x σ H T,xs[i]?=some x->Pv i σ H->L2.new K H T->g (.ref T) σ (upd H T (.tup [.int i,x])) λσ2 H2=>tb { D with nx:=Pv (i + 1),ct:=Pv (i + 1),bk:=D.nx } σ2 H2) (hd:∀σ H,Pv xs.length σ H->D.nx σ H):Loop (Mh K a) g tb D σ H:=by
 refine⟨λi m σ H=>m=xs.length - i/\i<=xs.length/\Pv i σ H,⟨xs.length,by simp,hU _,h0⟩,?_⟩;rintro i m σ H ⟨rfl,hi,p⟩;have q:=hl i σ H hi p
 by_cases jg:i < xs.length
 . refine .inr ⟨⟨xs,xs[i],q,by simp[jg]⟩,Pv (i + 1),λσ' H' p'=>⟨xs.length - (i + 1),by omega,rfl,jg,p'⟩,λv H' y=>?_⟩;obtain⟨T,v,nT,hv,rfl,rfl⟩:=y;exact hs i v σ _ T (hv xs q) p nT
 . have e:i=xs.length:=QR
   subst e;exact .inl ⟨⟨xs,q,ar _⟩,hd σ H p⟩
end
def rX (x:V)(k:Int->Prop):Prop:=match x with
 | .int i=>k i
 | _=>False
def zJ (x:V)(k:Bool->Prop):Prop:=match x with
 | .bl i=>k i
 | _=>False
def mj (x:V)(k:Addr->Prop):Prop:=match x with
 | .ref i=>k i
 | _=>False
theorem Zb {k:Int->Prop}:rX (.int i) k=k i:=rfl
theorem Zc {i:Bool}{k:Bool->Prop}:zJ (.bl i) k=k i:=rfl
theorem Nx {i:Addr}{k:Addr->Prop}:mj (.ref i) k=k i:=rfl
theorem rX.ex {k:Int->Prop}(h:rX x k):∃i,x=.int i/\k i:=by
 cases x <;> first | exact⟨_,rfl,h⟩ | exact h.elim
theorem zJ.ex {k:Bool->Prop}(h:zJ x k):∃i,x=.bl i/\k i:=by
 cases x <;> first | exact⟨_,rfl,h⟩ | exact h.elim
theorem mj.ex {k:Addr->Prop}(h:mj x k):∃i,x=.ref i/\k i:=by
 cases x <;> first | exact⟨_,rfl,h⟩ | exact h.elim
theorem VD {k:Int->Prop}:rX x k=∃i,x=.int i/\k i:=propext ⟨rX.ex,λ⟨_,e,h⟩=>e ▸ h⟩
theorem VE {k:Bool->Prop}:zJ x k=∃i,x=.bl i/\k i:=propext ⟨zJ.ex,λ⟨_,e,h⟩=>e ▸ h⟩
theorem VF {k:Addr->Prop}:mj x k=∃i,x=.ref i/\k i:=propext ⟨mj.ex,λ⟨_,e,h⟩=>e ▸ h⟩
def RH:Nat->List V->Prop->Prop
 | _,[],P=>P
 | 0,_::_,_=>False
 | n + 1,_::xs,P=>RH n xs P
def jw (xs:List V)(P:Prop):Prop:=RH 6 xs P
theorem uv:∀(n:Nat) (xs:List V) (P:Prop),RH n xs P->xs.length<=n/\P
 | n,[],P,h=>⟨hU _,by cases n <;> exact h⟩
 | 0,_::_,P,h=>h.elim
 | n + 1,_::xs,P,h=>⟨Nat.succ_le_succ (uv n xs P h).1,(uv n xs P h).2⟩
theorem jw.ex {P:Prop}(h:jw xs P):xs.length<=sizeLine/\P:=⟨cn (uv 6 xs P h).1 RF,(uv 6 xs P h).2⟩
section
variable {a b c d e f:V}{P:Prop}
theorem VG:jw [] P=P:=rfl
theorem VH:jw [a] P=P:=rfl
theorem VI:jw [a,b] P=P:=rfl
theorem VJ:jw [a,b,c] P=P:=rfl
theorem VL:jw [a,b,c,d] P=P:=rfl
theorem VM:jw [a,b,c,d,e] P=P:=rfl
theorem VN:jw [a,b,c,d,e,f] P=P:=rfl
end
def Cj (xs:List V)(k:V->Prop):Prop:=match xs with
 | [x]=>k x
 | _=>False
theorem Zd {k:V->Prop}:Cj [x] k=k x:=rfl
theorem Cj.ex {k:V->Prop}(h:Cj xs k):∃x,xs=[x]/\k x:=by
 unfold Cj at h;split at h
 . exact⟨_,rfl,h⟩
 . exact h.elim
def OW (xs:List V)(k:V->V->Prop):Prop:=match xs with
 | [x,y]=>k x y
 | _=>False
theorem Ze {y:V}{k:V->V->Prop}:OW [x,y] k=k x y:=rfl
theorem OW.ex {k:V->V->Prop}(h:OW xs k):∃x y,xs=[x,y]/\k x y:=by
 unfold OW at h;split at h
 . exact⟨_,_,rfl,h⟩
 . exact h.elim
def SW (xs:List V)(k:V->String->Prop):Prop:=match xs with
 | [x,.ty n]=>k x n
 | _=>False
theorem Zf {n:String}{k:V->String->Prop}:SW [x,.ty n] k=k x n:=rfl
theorem SW.ex {k:V->String->Prop}(h:SW xs k):∃x n,xs=[x,.ty n]/\k x n:=by
 unfold SW at h;split at h
 . exact⟨_,_,rfl,h⟩
 . exact h.elim
def vM (i:Nat):TE:=λσ H Q=>match σ[i]? with
 | some (some v)=>Q v H
 | _=>False
theorem vM.ex {i:Nat}(h:vM i σ H Q):Gg i σ H Q:=by
 unfold vM at h;unfold Gg;split at h
 . exact⟨_,‹_›,h⟩
 . exact h.elim
def rA (g:Int->Int->V):R2:=λx y H Q=>rX x λi=>rX y λj=>Q (g i j) H
def rC (C:Int->Int->Prop)(g:Int->Int->V):R2:=λx y H Q=>rX x λi=>rX y λj=>C i j/\Q (g i j) H
def Xm (t:TE):TT:=λσ H Q=>t σ H λx H1=>zJ x λc=>Q c H1
def OX (ta tb:TE):TE:=λσ H Q=>ta σ H λx H1=>zJ x λc=>if c=true then tb σ H1 Q else Q (.bl false) H1
def VO (ta tb:TE):TE:=λσ H Q=>ta σ H λx H1=>zJ x λc=>if c=true then Q (.bl true) H1 else tb σ H1 Q
def OY (ta:TE):TE:=λσ H Q=>ta σ H λx H1=>zJ x λc=>Q (.bl (!c)) H1
def zK (r r':R2)(ta tb tc:TE):TE:=λσ H Q=>ta σ H λx H1=>tb σ H1 λy H2=>r x y H2 λz H3=>zJ z λk=>if k=true then tc σ H3 λw' H4=>r' y w' H4 Q else Q (.bl false) H3
def Ny (K:Frag):R2:=λx y H Q=>mj x λp=>rX y λi=>∃xs,jZ K H p=some xs/\∃v,kZ xs i=some v/\Q v H
def OZ (K:Frag)(ta:TE)(f:Str):TE:=λσ H Q=>ta σ H λx H1=>mj x λa=>∃C dx fs,H1 a=some (.ins C dx fs)/\uo K C/\bK K C f/\∃v,fs.lookup f=some v/\Q v H1
def O0 (K:Frag)(ta tv:TE)(f:Str):TS:=λD σ H=>tv σ H λy H1=>ta σ H1 λx H2=>mj x λa=>∃C dx fs,H2 a=some (.ins C dx fs)/\uo K C/\bK K C f/\fs.length < 1000/\D.nx σ (upd H2 a (.ins C dx (bC f y fs)))
def KW (C:Addr)(m:Str)(sp:Sp)(jW:List V)(E:XK)(ta:TE)(t:TA):TE:=λσ H Q=>ta σ H λx H1=>mj x λa=>∃dx fs,H1 a=some (.ins C dx fs)/\fs.lookup m=none/\t σ H1 λvs H2=>sp (x::(vs++jW)) H2 Q E
def KY (td ty:TE):TE:=λσ H Q=>td σ H λx H1=>ty σ H1 λy H2=>mj x λa=>∃v,tT H2 a y (some v)/\Q v H2
def qE (K:Frag)(n:Nat)(t:Ay):TG:=λv σ H Q=>mj v λa=>∃xs,tupQ K H a=some xs/\xs.length=n/\t xs σ H Q
def KZ (K:Frag)(t:TA):TE:=λσ H Q=>t σ H λxs H1=>jw xs (∀p,L2.new K H1 p->Q (.ref p) (upd H1 p (.tup xs)))
def K0 (K:Frag)(t:TA):TE:=λσ H Q=>t σ H λxs H1=>jw xs (∀p,L2.new K H1 p->Q (.ref p) (upd H1 p (.lst xs)))
def yK (t:TE):TE:=λσ H Q=>∃Q0,t σ H Q0/\∀v H',Q0 v H'->Q v H'
def SX (t:TA):TA:=λσ H Q=>∃Q0,t σ H Q0/\∀v H',Q0 v H'->Q v H'
def VP (r:R2):R2:=λx y H Q=>∃Q0,r x y H Q0/\∀v H',Q0 v H'->Q v H'
section
variable {K:Frag}{st:Stmt}{ta tb tc t:TE}{u:TA}{r r':R2}{f:Str}
theorem JE.imp {t t':TE}(h:JE X e t)(k:∀σ H Q,t' σ H Q->t σ H Q):JE X e t':=⟨λpins s σ H Q I q=>h.h pins s σ H Q I (k _ _ _ q)⟩
theorem JT.imp {t t':TT}(h:JT X e t)(k:∀σ H Q,t' σ H Q->t σ H Q):JT X e t':=⟨λpins s σ H Q I q=>h.h pins s σ H Q I (k _ _ _ q)⟩
theorem jm (h:JE X e t):JE X e (yK t):=⟨λpins s σ H _ I ⟨Q0,q,k⟩=>bI (h.h pins s σ H Q0 I q) λ_ _ ⟨v,H',i,rr,q⟩=>⟨v,H',i,rr,k _ _ q⟩⟩
theorem am (h:JA X es u):JA X es (SX u):=⟨λpos pins s σ H _ I ⟨Q0,q,k⟩=>bI (h.h pos pins s σ H Q0 I q) λ_ _ ⟨v,H',i,rr,q⟩=>⟨v,H',i,rr,k _ _ q⟩⟩
theorem om {op}(h:iM X op r):iM X op (VP r):=λpins s σ H x y v u _ I r1 r2 ⟨Q0,q,k⟩=>bI (h pins s σ H x y v u Q0 I r1 r2 q) λ_ _ ⟨v,H',i,rr,q⟩=>⟨v,H',i,rr,k _ _ q⟩
theorem mA {op}(h:iM X op (Mf g)):iM X op (rA g):=λpins s σ H x y v u Q I r1 r2 q=>h pins s σ H x y v u Q I r1 r2 (let ⟨i,e,q⟩:=rX.ex q;let ⟨j,e',q⟩:=rX.ex q;⟨i,j,e,e',q⟩)
theorem mC {op}{C:Int->Int->Prop}(h:iM X op (rI C g)):iM X op (rC C g):=λpins s σ H x y v u Q I r1 r2 q=>h pins s σ H x y v u Q I r1 r2 (let ⟨i,e,q⟩:=rX.ex q;let ⟨j,e',q⟩:=rX.ex q;⟨i,j,e,e',q⟩)
theorem uw (hk:OG X (M6 K)):OG X (Ny K):=λa b pins s σ H x y v u Q I r1 r2 q=>hk a b pins s σ H x y v u Q I r1 r2 (let ⟨i,e,q⟩:=mj.ex q;let ⟨j,e',xs,h1,v,h2,q⟩:=rX.ex q;⟨i,j,xs,v,e,e',h1,h2,q⟩)
def K1 (K:Frag)(xs:List V)(H:Hp)(Q:VK):Prop:=Cj xs λx=>mj x λp=>∃ys,jZ K H p=some ys/\Q (.int ys.length) H
def RI (K:Frag)(xs:List V)(H:Hp)(Q:VK):Prop:=SW xs λx n=>∃t,U8 K H x t/\∃b,kitOne K t (.type n)=some b/\Q (.bl b) H
theorem VQ (hk:ef X (.builtin "len") (λxs H Q=>∃p ys,xs=[.ref p]/\jZ K H p=some ys/\Q (.int ys.length) H)):ef X (.builtin "len") (K1 K):=λpins s σ H xs us Q I r q=>hk pins s σ H xs us Q I r (let ⟨x,e,q⟩:=Cj.ex q;let ⟨p,e',ys,h,q⟩:=mj.ex q;⟨p,ys,by rw[e,e'],h,q⟩)
theorem isM (hk:ef X (.builtin "isinstance") (λxs H Q=>∃x n t b,xs=[x,.ty n]/\U8 K H x t/\kitOne K t (.type n)=some b/\Q (.bl b) H)):ef X (.builtin "isinstance") (RI K):=λpins s σ H xs us Q I r q=>hk pins s σ H xs us Q I r (let ⟨x,n,e,t,h,b,h',q⟩:=SW.ex q;⟨x,n,t,b,e,h,h',q⟩)
theorem evM {i:Nat}(h:JE X e (Gg i)):JE X e (vM i):=h.imp λ_ _ _=>vM.ex
theorem Ck (h:JT X e (tB (yK t))):JT X e (Xm t):=h.imp λ_ _ _ q=>⟨_,q,λ_ _ q=>zJ.ex q⟩
theorem cM (h:JT X e (uJ (Gn (VP r) (yK ta) (yK tb)))):JT X e (Xm (Gn r ta tb)):=h.imp λ_ _ _ q=>⟨_,q,λ_ _ q=>⟨_,q,λ_ _ q=>⟨_,q,λ_ _ q=>zJ.ex q⟩⟩⟩
theorem Az (h:JE X e (Eh (yK ta) tb)):JE X e (OX ta tb):=h.imp λ_ _ _ q=>⟨_,q,λ_ _ q=>zJ.ex q⟩
theorem orM (h:JE X e (Mw (yK ta) tb)):JE X e (VO ta tb):=h.imp λ_ _ _ q=>⟨_,q,λ_ _ q=>zJ.ex q⟩
theorem Zg (h:JE X e (Ei (yK ta))):JE X e (OY ta):=h.imp λ_ _ _ q=>⟨_,q,λ_ _ q=>zJ.ex q⟩
theorem RJ (h:JE X e (pI (VP r) r' (yK ta) (yK tb) tc)):JE X e (zK r r' ta tb tc):=h.imp λ_ _ _ q=>⟨_,q,λ_ _ q=>⟨_,q,λ_ _ q=>⟨_,q,λ_ _ q=>zJ.ex q⟩⟩⟩
theorem RK (h:JT X e (uJ (pI (VP r) (VP r') (yK ta) (yK tb) (yK tc)))):JT X e (Xm (zK r r' ta tb tc)):=h.imp λ_ _ _ q=>⟨_,q,λ_ _ q=>⟨_,q,λ_ _ q=>⟨_,q,λ_ _ q=>by
 obtain⟨k,e,q⟩:=zJ.ex q;refine⟨k,e,?_⟩;split at q
 . rw[Fh ‹_›];exact⟨_,q,λ_ _ q=>⟨_,q,λ_ _ q=>zJ.ex q⟩⟩
 . rw[Ee ‹_›];exact zJ.ex q⟩⟩⟩
theorem mq (h:JE X e (Jb K (yK ta) f)):JE X e (OZ K ta f):=h.imp λ_ _ _ q=>⟨_,q,λ_ _ q=>let ⟨a,e,C,dx,fs,h1,h2,h3,v,h4,q⟩:=mj.ex q;⟨a,C,dx,fs,v,e,h1,h2,h3,h4,q⟩⟩
theorem tX {tv:TE}(h:JS X st (MK K (yK ta) (yK tv) f)):JS X st (O0 K ta tv f):=⟨λpins s σ H D I q=>h.h pins s σ H D I ⟨_,q,λ_ _ q=>⟨_,q,λ_ _ q=>let ⟨a,e,C,dx,fs,h1,h2,h3,h4,q⟩:=mj.ex q;⟨a,C,dx,fs,e,h1,h2,h3,h4,q⟩⟩⟩⟩
theorem RL {jW:List V}{E:XK}(h:JE X e (xY C m sp jW E (yK ta) u)):JE X e (KW C m sp jW E ta u):=h.imp λ_ _ _ q=>⟨_,q,λ_ _ q=>let ⟨a,e,dx,fs,h1,h2,q⟩:=mj.ex q;⟨a,dx,fs,e,h1,h2,q⟩⟩
theorem wL (h:JE X e (Ez (yK ta) (yK tb))):JE X e (KY ta tb):=h.imp λ_ _ _ q=>⟨_,q,λ_ _ q=>⟨_,q,λ_ _ q=>let ⟨a,e,v,h,q⟩:=mj.ex q;⟨a,v,e,h,q⟩⟩⟩
theorem JG.imp {t t':TG}(h:JG X e t)(k:∀v σ H Q,t' v σ H Q->t v σ H Q):JG X e t':=⟨λpins s σ H v u Q I r q=>h.h pins s σ H v u Q I r (k _ _ _ _ q)⟩
theorem JI.imp {t t':TI}(h:JI X tg e t)(k:∀σ H Q,t' σ H Q->t σ H Q):JI X tg e t':=⟨λpins s σ H R I q=>h.h pins s σ H R I (k _ _ _ q)⟩
theorem lA {t:Ay}(h:JG X e (EG K n t)):JG X e (qE K n t):=h.imp λ_ _ _ _ q=>let ⟨a,e,xs,h1,h2,q⟩:=mj.ex q;⟨a,xs,e,h1,h2,q⟩
def O1 (K:Frag)(xs:List V)(H:Hp)(Q:VK):Prop:=Cj xs λx=>mj x λp=>∃bs:List Bool,aR K H p (bs.map V.bl)/\Q (.bl (bs.all id)) H
theorem HF (hk:ef X (.builtin "all") (λxs H Q=>∃(p:Addr) (bs:List Bool),xs=[.ref p]/\aR K H p (bs.map V.bl)/\Q (.bl (bs.all id)) H)):ef X (.builtin "all") (O1 K):=λpins s σ H xs us Q I r q=>hk pins s σ H xs us Q I r (let ⟨x,e,q⟩:=Cj.ex q;let ⟨p,e',ys,h,q⟩:=mj.ex q;⟨p,ys,by rw[e,e'],h,q⟩)
def rY (K:Frag)(tl:TE):TI:=λσ H R=>tl σ H λx H1=>mj x λa=>(∃xs,aR K H1 a xs)/\R (sQ K a) H1
def Ds (ta:TA):TI:=λσ H R=>ta σ H λvs H1=>Cj vs λx=>rX x λj=>-(2 ^ 62)<=j/\j < 2 ^ 62/\R (zf 0 j.toNat) H1
def Dt (ta:TA):TI:=λσ H R=>ta σ H λvs H1=>OW vs λx y=>rX x λi=>rX y λj=>(-(2 ^ 62)<=i/\i < 2 ^ 62/\-(2 ^ 62)<=j/\j < 2 ^ 62)/\R (zf i (j - i).toNat) H1
def Dw (K:Frag)(tl:TA):TI:=λσ H R=>tl σ H λvs H1=>Cj vs λx=>mj x λa=>(∃xs,aR K H1 a xs)/\R (Mh K a) H1
theorem j5 (h:JI X tg e (qh K (yK ta))):JI X tg e (rY K ta):=h.imp λ_ _ _ q=>⟨_,q,λ_ _ q=>mj.ex q⟩
theorem SY (h:JI X tg e (AL (SX u))):JI X tg e (Ds u):=h.imp λ_ _ _ q=>⟨_,q,λ_ _ q=>let ⟨x,e,q⟩:=Cj.ex q;let ⟨j,e',q⟩:=rX.ex q;⟨j,by rw[e,e'],q⟩⟩
theorem Zh (h:JI X tg e (AM (SX u))):JI X tg e (Dt u):=h.imp λ_ _ _ q=>⟨_,q,λ_ _ q=>let ⟨x,y,e,q⟩:=OW.ex q;let ⟨i,e1,q⟩:=rX.ex q;let ⟨j,e2,q⟩:=rX.ex q;⟨i,j,by rw[e,e1,e2],q⟩⟩
theorem ieM (h:JI X tg e (ER K (SX u))):JI X tg e (Dw K u):=h.imp λ_ _ _ q=>⟨_,q,λ_ _ q=>let ⟨x,e,q⟩:=Cj.ex q;let ⟨j,e',q⟩:=mj.ex q;⟨j,by rw[e,e'],q⟩⟩
theorem Tc (h:JE X e (EE K (SX u))):JE X e (KZ K u):=h.imp λ_ _ _ q=>⟨_,q,λ_ _ q=>jw.ex q⟩
theorem Zi (h:JE X e (EF K (SX u))):JE X e (K0 K u):=h.imp λ_ _ _ q=>⟨_,q,λ_ _ q=>jw.ex q⟩
end
section
variable {v:V}{r:St}
theorem VR:vM 0 (some v::r) H Q=Q v H:=rfl
theorem VS :vM 1 (x0::some v::r) H Q=Q v H:=rfl
theorem VT :vM 2 (x0::x1::some v::r) H Q=Q v H:=rfl
theorem VU {x2:Option V}:vM 3 (x0::x1::x2::some v::r) H Q=Q v H:=rfl
theorem VW {x2 x3:Option V}:vM 4 (x0::x1::x2::x3::some v::r) H Q=Q v H:=rfl
theorem VX {x2 x3:Option V}:vM 5 (x0::x1::x2::x3::x4::some v::r) H Q=Q v H:=rfl
theorem VY {x2 x3:Option V}:vM 6 (x0::x1::x2::x3::x4::x5::some v::r) H Q=Q v H:=rfl
theorem VZ {x2 x3:Option V}:vM 7 (x0::x1::x2::x3::x4::x5::x6::some v::r) H Q=Q v H:=rfl
theorem V0 {x2 x3:Option V}:vM 8 (x0::x1::x2::x3::x4::x5::x6::x7::some v::r) H Q=Q v H:=rfl
theorem V1 {x2 x3:Option V}:vM 9 (x0::x1::x2::x3::x4::x5::x6::x7::x8::some v::r) H Q=Q v H:=rfl
theorem RM {x2 x3:Option V}:vM 10 (x0::x1::x2::x3::x4::x5::x6::x7::x8::x9::some v::r) H Q=Q v H:=rfl
theorem RO {x2 x3:Option V}:vM 11 (x0::x1::x2::x3::x4::x5::x6::x7::x8::x9::qF::some v::r) H Q=Q v H:=rfl
theorem RP {x2 x3:Option V}:vM 12 (x0::x1::x2::x3::x4::x5::x6::x7::x8::x9::qF::mz::some v::r) H Q=Q v H:=rfl
theorem RQ {x2 x3:Option V}:vM 13 (x0::x1::x2::x3::x4::x5::x6::x7::x8::x9::qF::mz::jf::some v::r) H Q=Q v H:=rfl
theorem RS {x2 x3:Option V}:vM 14 (x0::x1::x2::x3::x4::x5::x6::x7::x8::x9::qF::mz::jf::qf::some v::r) H Q=Q v H:=rfl
theorem RT {x2 x3:Option V}:vM 15 (x0::x1::x2::x3::x4::x5::x6::x7::x8::x9::qF::mz::jf::qf::tY::some v::r) H Q=Q v H:=rfl
theorem RU {x2 x3:Option V}:vM 16 (x0::x1::x2::x3::x4::x5::x6::x7::x8::x9::qF::mz::jf::qf::tY::rD::some v::r) H Q=Q v H:=rfl
theorem RV {x2 x3:Option V}:vM 17 (x0::x1::x2::x3::x4::x5::x6::x7::x8::x9::qF::mz::jf::qf::tY::rD::ux::some v::r) H Q=Q v H:=rfl
theorem RW {x2 x3:Option V}:vM 18 (x0::x1::x2::x3::x4::x5::x6::x7::x8::x9::qF::mz::jf::qf::tY::rD::ux::Dy::some v::r) H Q=Q v H:=rfl
theorem RX {x2 x3:Option V}:vM 19 (x0::x1::x2::x3::x4::x5::x6::x7::x8::x9::qF::mz::jf::qf::tY::rD::ux::Dy::HG::some v::r) H Q=Q v H:=rfl
theorem RY {x2 x3:Option V}:vM 20 (x0::x1::x2::x3::x4::x5::x6::x7::x8::x9::qF::mz::jf::qf::tY::rD::ux::Dy::HG::K2::some v::r) H Q=Q v H:=rfl
theorem RZ {x2 x3:Option V}:vM 21 (x0::x1::x2::x3::x4::x5::x6::x7::x8::x9::qF::mz::jf::qf::tY::rD::ux::Dy::HG::K2::Nz::some v::r) H Q=Q v H:=rfl
theorem R1 {x2 x3:Option V}:vM 22 (x0::x1::x2::x3::x4::x5::x6::x7::x8::x9::qF::mz::jf::qf::tY::rD::ux::Dy::HG::K2::Nz::R3::some v::r) H Q=Q v H:=rfl
theorem R4 {x2 x3 V2:Option V}:vM 23 (x0::x1::x2::x3::x4::x5::x6::x7::x8::x9::qF::mz::jf::qf::tY::rD::ux::Dy::HG::K2::Nz::R3::V2::some v::r) H Q=Q v H:=rfl
theorem R5 {x2 x3 V2 Zj:Option V}:vM 24 (x0::x1::x2::x3::x4::x5::x6::x7::x8::x9::qF::mz::jf::qf::tY::rD::ux::Dy::HG::K2::Nz::R3::V2::Zj::some v::r) H Q=Q v H:=rfl
theorem R6 {x2 x3 V2 Zj x24:Option V}:vM 25 (x0::x1::x2::x3::x4::x5::x6::x7::x8::x9::qF::mz::jf::qf::tY::rD::ux::Dy::HG::K2::Nz::R3::V2::Zj::x24::some v::r) H Q=Q v H:=rfl
end
section
variable {K:Frag}{tl:TE}{g g1:TG}{tt EJ:TT}{A:Addr}{acc:List V}{N:List V->St->Hp->Prop}{EI:TI}
theorem HH:oq (rY K tl) g tb D σ H=tl σ H (λx H1=>mj x λa=>(∃xs,aR K H1 a xs)/\Loop (sQ K a) g tb D σ H1):=rfl
theorem NB:oq (Ds ta) g tb D σ H=ta σ H (λvs H1=>Cj vs λx=>rX x λj=>-(2 ^ 62)<=j/\j < 2 ^ 62/\Loop (zf 0 j.toNat) g tb D σ H1):=rfl
theorem NC:oq (Dt ta) g tb D σ H=ta σ H (λvs H1=>OW vs λx y=>rX x λi=>rX y λj=>(-(2 ^ 62)<=i/\i < 2 ^ 62/\-(2 ^ 62)<=j/\j < 2 ^ 62)/\Loop (zf i (j - i).toNat) g tb D σ H1):=rfl
theorem ND:oq (Dw K ta) g tb D σ H=ta σ H (λvs H1=>Cj vs λx=>mj x λa=>(∃xs,aR K H1 a xs)/\Loop (Mh K a) g tb D σ H1):=rfl
theorem K3:GU K (rY K tl) src g tt te σ H Q=tl σ H (λx H1=>mj x λa=>(∃xs,aR K H1 a xs)/\∀D,L2.new K H1 D->b7 (sQ K a) g tt te D (λH'=>Q (.ref D) H') (pick σ src) (upd H1 D (.lst []))):=rfl
theorem R7:GU K (Ds ta) src g tt te σ H Q=ta σ H (λvs H1=>Cj vs λx=>rX x λj=>-(2 ^ 62)<=j/\j < 2 ^ 62/\∀D,L2.new K H1 D->b7 (zf 0 j.toNat) g tt te D (λH'=>Q (.ref D) H') (pick σ src) (upd H1 D (.lst []))):=rfl
theorem R8:GU K (Dt ta) src g tt te σ H Q=ta σ H (λvs H1=>OW vs λx y=>rX x λi=>rX y λj=>(-(2 ^ 62)<=i/\i < 2 ^ 62/\-(2 ^ 62)<=j/\j < 2 ^ 62)/\∀D,L2.new K H1 D->b7 (zf i (j - i).toNat) g tt te D (λH'=>Q (.ref D) H') (pick σ src) (upd H1 D (.lst []))):=rfl
theorem R9:GU K (Dw K ta) src g tt te σ H Q=ta σ H (λvs H1=>Cj vs λx=>mj x λa=>(∃xs,aR K H1 a xs)/\∀D,L2.new K H1 D->b7 (Mh K a) g tt te D (λH'=>Q (.ref D) H') (pick σ src) (upd H1 D (.lst []))):=rfl
theorem HJ:Na K (rY K tl) src g tt EI g1 EJ te σ H Q=tl σ H (λx H1=>mj x λa=>(∃xs,aR K H1 a xs)/\∀D,L2.new K H1 D->fJ (sQ K a) g tt (sV EI g1 EJ te D) [] (λ_ _ H'=>Q (.ref D) H') (pick σ src) (upd H1 D (.lst []))):=rfl
theorem HK:sV (rY K tl) g tt te A acc σ H N=tl σ H (λx H1=>mj x λa=>(∃xs,aR K H1 a xs)/\fJ (sQ K a) g tt (yu te A) acc N σ H1):=rfl
end
theorem V3 {β:Type}{f:α->β}{a:α}{l:List α}:List.map f (a::l)=f a::List.map f l:=rfl
theorem V4 {β:Type}{f:α->β}:List.map f []=[]:=rfl
theorem Zk {a:α}{l r:List α}:(a::l)++r=a::(l++r):=rfl
theorem Zl {r:List α}:[]++r=r:=rfl
inductive Xn {α0:Sort _}(p:α0->Prop):Prop
 | mk (x0:α0) (h:p x0):Xn p
inductive NF {α0 α1:Sort _}(p:α0->α1->Prop):Prop
 | mk (x0:α0) (x1:α1) (h:p x0 x1):NF p
inductive Sb {α0 α1 α2:Sort _}(p:α0->α1->α2->Prop):Prop
 | mk (x0:α0) (x1:α1) (x2:α2) (h:p x0 x1 x2):Sb p
inductive Xo {α0 α1 α2 α3:Sort _}(p:α0->α1->α2->α3->Prop):Prop
 | mk (x0:α0) (x1:α1) (x2:α2) (x3:α3) (h:p x0 x1 x2 x3):Xo p
inductive Ex5 {α0 α1 α2 α3 α4:Sort _}(p:α0->α1->α2->α3->α4->Prop):Prop
 | mk (x0:α0) (x1:α1) (x2:α2) (x3:α3) (x4:α4) (h:p x0 x1 x2 x3 x4):Ex5 p
inductive Ex6 {α0 α1 α2 α3 α4 α5:Sort _}(p:α0->α1->α2->α3->α4->α5->Prop):Prop
 | mk (x0:α0) (x1:α1) (x2:α2) (x3:α3) (x4:α4) (x5:α5) (h:p x0 x1 x2 x3 x4 x5):Ex6 p
inductive Zm {α0 α1 α2 α3 α4 α5 α6:Sort _}(p:α0->α1->α2->α3->α4->α5->α6->Prop):Prop
 | mk (x0:α0) (x1:α1) (x2:α2) (x3:α3) (x4:α4) (x5:α5) (x6:α6) (h:p x0 x1 x2 x3 x4 x5 x6):Zm p
inductive Zn {α0 α1 α2 α3 α4 α5 α6 α7:Sort _}(p:α0->α1->α2->α3->α4->α5->α6->α7->Prop):Prop
 | mk (x0:α0) (x1:α1) (x2:α2) (x3:α3) (x4:α4) (x5:α5) (x6:α6) (x7:α7) (h:p x0 x1 x2 x3 x4 x5 x6 x7):Zn p
inductive O2 (p0 p1:Prop):Prop
 | mk (_:p0) (_:p1):O2 p0 p1
inductive Al3 (p0 p1 p2:Prop):Prop
 | mk (_:p0) (_:p1) (_:p2):Al3 p0 p1 p2
inductive Al4 (p0 p1 p2 p3:Prop):Prop
 | mk (_:p0) (_:p1) (_:p2) (_:p3):Al4 p0 p1 p2 p3
inductive V5 (p0 p1 p2 p3 p4:Prop):Prop
 | mk (_:p0) (_:p1) (_:p2) (_:p3) (_:p4):V5 p0 p1 p2 p3 p4
inductive V6 (p0 p1 p2 p3 p4 p5:Prop):Prop
 | mk (_:p0) (_:p1) (_:p2) (_:p3) (_:p4) (_:p5):V6 p0 p1 p2 p3 p4 p5
inductive Zo (p0 p1 p2 p3 p4 p5 p6:Prop):Prop
 | mk (_:p0) (_:p1) (_:p2) (_:p3) (_:p4) (_:p5) (_:p6):Zo p0 p1 p2 p3 p4 p5 p6
inductive Zp (p0 p1 p2 p3 p4 p5 p6 p7:Prop):Prop
 | mk (_:p0) (_:p1) (_:p2) (_:p3) (_:p4) (_:p5) (_:p6) (_:p7):Zp p0 p1 p2 p3 p4 p5 p6 p7
inductive Zq (p0 p1 p2 p3 p4 p5 p6 p7 p8:Prop):Prop
 | mk (_:p0) (_:p1) (_:p2) (_:p3) (_:p4) (_:p5) (_:p6) (_:p7) (_:p8):Zq p0 p1 p2 p3 p4 p5 p6 p7 p8
inductive Sd (p0 p1 p2 p3 p4 p5 p6 p7 p8 p9:Prop):Prop
 | mk (_:p0) (_:p1) (_:p2) (_:p3) (_:p4) (_:p5) (_:p6) (_:p7) (_:p8) (_:p9):Sd p0 p1 p2 p3 p4 p5 p6 p7 p8 p9
inductive V7 (p0 p1 p2 p3 p4 p5 p6 p7 p8 p9 p10:Prop):Prop
 | mk (_:p0) (_:p1) (_:p2) (_:p3) (_:p4) (_:p5) (_:p6) (_:p7) (_:p8) (_:p9) (_:p10):V7 p0 p1 p2 p3 p4 p5 p6 p7 p8 p9 p10
def uy (a b:St):Prop:=a=b
def cR:Stmt->List Stmt
 | .For _ _ b _ _=>b
 | _=>[]
def rZ:Stmt->List Stmt
 | .If _ b _ _=>b
 | _=>[]
def st:List Str->List V->St
 | [],vs=>vs.map some
 | _::N,[]=>none::st N []
 | _::N,v::vs=>some v::st N vs
theorem Zr:st [] []=[]:=rfl
theorem Zs {x:Str}:st (x::N) []=none::st N []:=rfl
theorem Zt {x:Str}{v:V}{vs:List V}:st (x::N) (v::vs)=some v::st N vs:=rfl
theorem qG:∀(N:List Str) (vs:List V),start N vs=st N vs
 | [],vs=>by simp[start,st]
 | x::N,[]=>by
   have:=qG N [];simp only[start,List.map_nil,List.nil_append,List.length_nil,Nat.sub_zero]at this ⊢;rw[List.length_cons,List.replicate_succ,this];rfl
 | x::N,v::vs=>by
   have:=qG N vs;simp only[start,List.map_cons,List.cons_append,List.length_cons,Nat.add_sub_add_right]at this ⊢;rw[this];rfl
section
variable {K:Frag}{x qual:Str}{k:Nat}
theorem bQ.okS (F:bQ K x qual s0 f fd)(S:eg N ps (aL s0))(len:∀vs H Q E,sp vs H Q E->vs.length=ps.length)
   (iP:∀(eV:Value) (A:Around) (outer:List Env) (s:Shared) (H:Hp) (vs:List V) (Q:VK) (E:XK),dB k (A.deeper (envOfC qual (aL s0) s.heap.objs.size f eV))->sp vs H Q E->
     ∃t,JB (qj oH P w K mg base N qual (aL s0) f eV A outer s H E).Mc (aj s0) t/\t { nx:=λ_ H'=>Q .bO H',rt:=Q } (st N vs) H):dH P w K mg base oH (k + 1) f fd ps sp:=
 F.okJ S len λeV A outer s H vs Q E hr h=>qG N vs ▸ iP eV A outer s H vs Q E hr h
theorem bQ.okT (F:bQ K x qual s0 f fd)(S:eg N ps (aL s0))(len:∀vs H Q E,sp vs H Q E->vs.length=ps.length)
   (iP:∀(eV:Value) (A:Around) (outer:List Env) (s:Shared) (H:Hp) (vs:List V) (Q:VK) (E:XK),dB k (A.deeper (envOfC qual (aL s0) s.heap.objs.size f eV))->iE K H->sp vs H Q E->
     ∃t,JB (qj oH P w K mg base N qual (aL s0) f eV A outer s H E).Mc (aj s0) t/\t { nx:=λ_ H'=>Q .bO H',rt:=Q } (st N vs) H):dH P w K mg base oH (k + 1) f fd ps sp:=
 F.okM S len λeV A outer s H vs Q E hr hm h=>qG N vs ▸ iP eV A outer s H vs Q E hr hm h
end
section
variable {j:Int}{a b:Bool}{s t:Str}
theorem NG:ow (.int i) (.int j)=true:=rfl
theorem NH:ow (.str s) (.str t)=true:=rfl
theorem NI:ow (.bl a) (.bl b)=true:=rfl
theorem NJ:ow .bO .bO=true:=rfl
theorem NK:ow (.int i) .bO=true:=rfl
theorem NL:ow .bO (.int i)=true:=rfl
theorem NO:ow (.str s) .bO=true:=rfl
theorem NP:ow .bO (.str s)=true:=rfl
theorem NQ:ow (.bl a) .bO=true:=rfl
theorem NR:ow .bO (.bl a)=true:=rfl
theorem NS:ow (.int i) (.str s)=true:=rfl
theorem NT:ow (.str s) (.int i)=true:=rfl
theorem NU:ow (.bl a) (.str s)=true:=rfl
theorem NV:ow (.str s) (.bl a)=true:=rfl
end
theorem O3 {K:Frag}{l l':Expr}{t:TA}{k:Nat}{p tp:Pos}(hg:Gl X "zip")(hm:X.mg "zip"=none)(ha:JA X [l,l'] t)(hs:starEach [l,l'] X.env=(false,eval l X.env)::starEach [l'] X.env:=by rfl)(IT:(backTo pos (starEach [l'] X.env)).any (·.1)=false:=by rfl)(hk:X.K=K:=by rfl):
   JI X (.Tuple es k tp) (.Call (.Name "zip" p) [l,l'] [] pos) (Nh K t):=hk ▸ YS hg hm ha hs IT
theorem NW {K:Frag}{g:TG}{tt:TT}:GU K (Nh K ta) src g tt te σ H Q=ta σ H (λvs H1=>∃a b,vs=[.ref a,.ref b]/\(∃xs,aR K H1 a xs)/\(∃ys,aR K H1 b ys)/\∀D,L2.new K H1 D->b7 (Rj K a b) g tt te D (λH'=>Q (.ref D) H') (pick σ src) (upd H1 D (.lst []))):=rfl
theorem V8 {a b c:α}:gk 2 1 [a,b] [c]=[a,b,c]:=rfl
structure K4 (P:Program)(w:World)(K:Frag)(mg:Str->Option Value)(base:Heap)(C:Addr)(m:Str)(k:Nat)(ps ks:List Str)(n j:Nat)(sp:Sp):Prop where
 ex:∃(f:Addr) (fd:FuncData),Meth K C m f/\dH P w K mg base oH k f fd ps sp/\rM K fd ps ks (gk n j) (gk n j)
def La (C:Addr)(nm:Str)(sp:Sp)(n j:Nat)(E:XK)(ta:TE)(t tk:TA):TE:=λσ H Q=>ta σ H λx H1=>mj x λa=>∃dx fs,H1 a=some (.ins C dx fs)/\fs.lookup nm=none/\
 t σ H1 λvs H2=>tk σ H2 λzs H3=>sp (gk n j (x::vs) zs) H3 Q E
section
variable {k:Nat}{ks:List Str}{apos:Pos}{o:Expr}{t tk:TA}{ta:TE}{pl:Sem Bool}{rB:List Keyword}
theorem Lb (M:K4 X.prog X.w X.K X.mg X.base C m k ps ks n j sp)(c:uo X.K C)(hr:dB k X.A)(ho:JE X o ta)(ha:JA X (e::es) t)(UJ:JK X rB tk)
   (zg:(backToKw pos (keywordEach rB X.env)).all (·.1.isSome)=true:=by rfl) (Je:(backToKw pos (keywordEach rB X.env)).filterMap (·.1)=ks:=by rfl)
   (he:starEach (e::es) X.env=(false,eval e X.env)::starEach es X.env:=by rfl)
   (nu:((backTo pos (starEach (e::es) X.env)).any (·.1)||(backToKw pos (keywordEach rB X.env)).any (·.1.isNone))=false:=by rfl)
   (ht:eval (.Call (.Attribute o m apos) (e::es) rB pos) X.env=(do
     let ov <- eval o X.env
     standAt apos.atName
     let (f,first) <- holding [ov] (getMethod ov m pl)
     callWith pos f first (backTo pos (starEach (e::es) X.env)) (backToKw pos (keywordEach rB X.env))):=by rfl):
   JE X (.Call (.Attribute o m apos) (e::es) rB pos) (La C m sp n j E0 ta t tk):=⟨by
 obtain⟨f,fd,hm,F,b⟩:=M.ex;intro pins s σ H Q I h;refine ub (pl:=pl) (bI (ho.h pins s σ H _ I h) λu s1 ⟨x,H1,I1,rx,q0⟩=>?_) ht;obtain⟨a,ex,dx,fs,ea,l,q⟩:=mj.ex q0;subst ex;obtain rfl:u=Value.ref a:=rx;refine pJ I1 ea c hm l ?_;refine PySem.W.callWith_KW (first:=[.ref a]) (h₀:=X.base) I.ok.mod.Ms hm.kp zg ?_ nu he;refine bI (ha.h pos pins s1 σ H1 _ I1 q) λus s2 ⟨vs,H2,I2,r2,q2⟩=>?_;refine bI (UJ.h pos pins s2 σ H2 _ I2 q2) λws s3 ⟨zs,H3,I3,rz,q3⟩=>⟨I3.qd,?_⟩
 rw[Je];exact Eo (us:=.ref a::us) (vs:=.ref a::vs) F hr b yi I3 (.cons rfl r2) rz q3⟩
def O4 (K:Frag)(te:TE):TE:=λσ H Q=>te σ H λx H1=>mj x λa=>∃xs,aR K H1 a xs/\∀p ys,L2.new K H1 p->(∀v∈ys,v∈xs)->Q (.ref p) (upd H1 p (.lst ys))
theorem V9 {i:Nat}{j1:Nat}{p1 p2 p3:Pos}(he:JE X e te):JE X (.Subscript e (.Slice none none (some (.UnaryOp .USub (.Constant (.int ((i:Int) + 1)) j1 p1) p2)) p3) pos) (O4 X.K te):=⟨by
 intro pins s σ H Q I h;refine Subscript_ (bI (he.h pins s σ H _ I h) λv s1 ⟨x,H1,I1,r1,q1⟩=>?_);refine wpAny_Slice ?_;rw[PQ];refine B2 (B2 ?_);rw[evalPart_some];refine bI ((Q5 (pos:=p2) pH (ei (X:=X) (i:=(i:Int) + 1) (j:=j1) (pos:=p1))).h pins s1 σ H1 (λy H2=>y=.int (-((i:Int) + 1))/\H2=H1) I1 ⟨_,rfl,rfl,rfl⟩) λvs s2 ⟨y,H2,I2,r2,q2,q3⟩=>?_;subst q2 q3;obtain⟨tk,rfl⟩:=r2;obtain⟨a,rfl,xs,hx,q⟩:=mj.ex q1;cases r1;have I4:Inv X pins σ H2 { s2 with heap:=s2.heap.push { cls:=.type "slice",data:=.fields #[.none,.none,.int (-((i:Int) + 1)) tk] } }:=I2.kept (t':=s2.toks) λb ob q=>ae _ q;obtain⟨bu,r,ht,hz⟩:=I4.list hx;have hlen:=r.length;show wpAny (model X.prog X.w) X.A (subscriptTail e (.Slice none none (some (.UnaryOp .USub (.Constant (.int ((i:Int) + 1)) j1 p1) p2)) p3) (.ref a) (.ref s2.heap.objs.size)) (EP X pins σ Q) X.xe { s2 with heap:=s2.heap.push { cls:=.type "slice",data:=.fields #[.none,.none,.int (-((i:Int) + 1)) tk] } };refine tail_any (ops:=[.ref a,.ref s2.heap.objs.size]) ht.isList.typeIs slot_list_getitem.lookup ?_ SF;refine OK ht.isList (wx ..) .none .none (.int _ _) (λz=>absurd (Option.some.inj z) QR) ?_ (by rw[cp];exact hlen ▸ hz);obtain⟨ls,e⟩:∃ls:List Nat,slicePick bu.toArray none none (some (-((i:Int) + 1)))=(ls.filterMap (bu[·]?)).toArray:=⟨_,by unfold slicePick;congr 2;funext j;exact me ..⟩
 have hs:=slicePick_size_le bu.toArray none none (some (-((i:Int) + 1)));have rr:=rT r ls;rw[e,cp,cp,<- rr.length,<- hlen]at hs;rw[e];exact⟨.ref _,_,I4.QN (t':=s2.toks) rr (cn hs hz),rfl,q _ _ I4.new λv hv=>by
   obtain⟨m,_,hm⟩:=wb.mp hv;exact ba hm⟩⟩
end
theorem Sun {n:Nat}{p:List Value->Prop}(q:∀a us,us.length=n->p (a::us)):∀us:List Value,us.length=n + 1->p us
 | a::us,e=>q a us (Nat.succ.inj e)
theorem O5 (h:∀a,p [a]):∀us:List Value,us.length=1->p us:=Sun (n:=0) λa us e=>by cases us with
 | nil=>exact h a
 | cons b r=>cases e
theorem O6 (h:∀a b,p [a,b]):∀us:List Value,us.length=2->p us:=Sun (n:=1) λa=>O5 (p:=λu=>p (a::u)) (h a)
theorem O7 (h:∀a b c,p [a,b,c]):∀us:List Value,us.length=3->p us:=Sun (n:=2) λa=>O6 (p:=λu=>p (a::u)) (h a)
theorem Xp (h:∀a b c d,p [a,b,c,d]):∀us:List Value,us.length=4->p us:=Sun (n:=3) λa=>O7 (p:=λu=>p (a::u)) (h a)
theorem Xq (h:∀a b c d e,p [a,b,c,d,e]):∀us:List Value,us.length=5->p us:=Sun (n:=4) λa=>Xp (p:=λu=>p (a::u)) (h a)
theorem Xr (h:∀a b c d e f,p [a,b,c,d,e,f]):∀us:List Value,us.length=6->p us:=Sun (n:=5) λa=>Xq (p:=λu=>p (a::u)) (h a)
abbrev BA (x q:Str)(st:Stmt)(ps:List Str):Prop:=∀(kV doc pm:Value) (an:Option Addr) (eV ct:Value) (us:List Value),us.length=ps.length->bindArgs (fnOf x q (cK st) (aj st) (aL st) .none kV doc pm an eV ct) ⟨us,[]⟩=pure (ps.zip us)
structure DI (K:Frag)(x:Str)(st:Stmt):Prop where
 ex:∃(f:Addr) (fd:FuncData),nsIn K mainGlobals x=some (some (.ref f))/\bQ K x x st f fd
structure MI (K:Frag)(C:Addr)(x q:Str)(st:Stmt):Prop where
 ex:∃(f:Addr) (fd:FuncData),(findIn K (.ref C) x=some (some (.ref f))/\isFn K (.ref f)=true)/\bQ K x q st f fd
structure CI (K:Frag)(x:Str)(C:Addr):Prop where
 at_:nsIn K mainGlobals x=some (some (.ref C))
 mk1:makesIn K C=true
 kp:keepIn K (.ref C)=true
structure KwIn (K:Frag)(x q kw:Str)(st:Stmt)(f:Addr)(fd:FuncData):Prop where
 F:bQ K x q st f fd
 db:∃(kV doc pm:Value) (an:Option Addr) (eV ct:Value) (w:Addr) (wc:Value) (wd:Option Addr) (we:List DictEntry) (wn:Nat) (ws:Array (Option Value)),fd=fnOf x q (cK st) (aj st) (aL st) .none (.ref w) doc pm an eV ct/\K.lookup w=some ⟨wc,wd,.dict we.toArray wn,ws⟩/\gY we.toArray=true/\nsFind we.toArray kw=some .none
structure DW (K:Frag)(x kw:Str)(st:Stmt):Prop where
 ex:∃(f:Addr) (fd:FuncData),nsIn K mainGlobals x=some (some (.ref f))/\KwIn K x x kw st f fd
structure MW (K:Frag)(C:Addr)(x q kw:Str)(st:Stmt):Prop where
 ex:∃(f:Addr) (fd:FuncData),(findIn K (.ref C) x=some (some (.ref f))/\isFn K (.ref f)=true)/\KwIn K x q kw st f fd
section
variable {K:Frag}{x q kw:Str}{st:Stmt}{oc kV doc pm eV ct:Value}{od an:Option Addr}{Gu:Array (Option Value)}{w:Addr}{wc:Value}{wd:Option Addr}{we:List DictEntry}{wn:Nat}{ws:Array (Option Value)}
theorem na_ {a:Str}(h:findIn K (.ref C) a=some none):bK K C a:=h
theorem di (a:nsIn K mainGlobals x=some (some (.ref f)))(l:K.lookup f=some ⟨oc,od,.func (fnOf x x (cK st) (aj st) (aL st) .none kV doc pm an eV ct),Gu⟩)(c:codeIn K eV x=true)(k:keepIn K (.ref f)=true):DI K x st:=⟨f,_,a,zq l c k⟩
theorem mi (a:findIn K (.ref C) x=some (some (.ref f)))(l:K.lookup f=some ⟨oc,od,.func (fnOf x q (cK st) (aj st) (aL st) .none kV doc pm an eV ct),Gu⟩)(c:codeIn K eV q=true)(k:keepIn K (.ref f)=true)(n:isFn K (.ref f)=true):MI K C x q st:=⟨f,_,⟨a,n⟩,zq l c k⟩
theorem dw (a:nsIn K mainGlobals x=some (some (.ref f)))(l:K.lookup f=some ⟨oc,od,.func (fnOf x x (cK st) (aj st) (aL st) .none (.ref w) doc pm an eV ct),Gu⟩)(c:codeIn K eV x=true)(k:keepIn K (.ref f)=true)(lw:K.lookup w=some ⟨wc,wd,.dict we.toArray wn,ws⟩)(h1:gY we.toArray=true)(h2:nsFind we.toArray kw=some .none):DW K x kw st:=⟨f,_,a,zq l c k,.none,_,_,_,_,_,_,_,_,_,_,_,rfl,lw,h1,h2⟩
theorem mw (a:findIn K (.ref C) x=some (some (.ref f)))(l:K.lookup f=some ⟨oc,od,.func (fnOf x q (cK st) (aj st) (aL st) .none (.ref w) doc pm an eV ct),Gu⟩)(c:codeIn K eV q=true)(k:keepIn K (.ref f)=true)(n:isFn K (.ref f)=true)(lw:K.lookup w=some ⟨wc,wd,.dict we.toArray wn,ws⟩)(h1:gY we.toArray=true)(h2:nsFind we.toArray kw=some .none):MW K C x q kw st:=⟨f,_,⟨a,n⟩,zq l c k,.none,_,_,_,_,_,_,_,_,_,_,_,rfl,lw,h1,h2⟩
end
section
variable {P:Program}{w:World}{K:Frag}{mg:Str->Option Value}{base h:Heap}(XK:K.In h)(G:h.Ns mainGlobals mg){x q kw:Str}{st:Stmt}{k n:Nat}{ps:List Str}{sp:Sp}{C:Addr}
include XK G
theorem DI.c (d:DI K x st)(ok:∀{f fd},bQ K x x st f fd->dH P w K mg base oH k f fd ps sp)(hb:BA x x st ps:=by walk_at "d2"):Callee P w K mg base x k ps sp:=by
 obtain⟨f,fd,a,F⟩:=d;exact⟨f,fd,ok F,F.binds hb,F.kp,mI XK G a⟩
theorem DI.r (d:DI K x st)(ok:∀{f fd},bQ K x x st f fd->Binds K fd ps []->keepIn K (.ref f)=true->mg x=some (.ref f)->dH P w K mg base oH k f fd ps sp)(hb:BA x x st ps:=by walk_at "d2"):Callee P w K mg base x k ps sp:=by
 obtain⟨f,fd,a,F⟩:=d;exact⟨f,fd,ok F (F.binds hb) F.kp (mI XK G a),F.binds hb,F.kp,mI XK G a⟩
omit XK G in
theorem MI.c (d:MI K C x q st)(ok:∀{f fd},bQ K x q st f fd->dH P w K mg base oH k f fd ps sp)(hb:BA x q st ps:=by walk_at "d2"):jJ P w K mg base C x k ps [] sp:=by
 obtain⟨f,fd,a,F⟩:=d;exact⟨f,fd,[],⟨a.1,a.2,F.kp⟩,ok F,F.binds hb,.nil⟩
theorem MI.Wa (d:MI K C "__init__" q st)(e:CI K x C)(ok:∀{f fd},bQ K "__init__" q st f fd->dH P w K mg base oH k f fd ps sp)(hb:BA "__init__" q st ps:=by walk_at "d2"):Maker P w K mg base x k ps [] C sp:=by
 obtain⟨f,fd,a,F⟩:=d;exact⟨f,fd,[],⟨e.mk1,a.1,a.2,e.kp⟩,ok F,F.binds hb,.nil,mI XK G e.at_⟩
abbrev BK (x q kw:Str)(st:Stmt)(n:Nat)(ps:List Str):Prop:=∀(kV doc pm:Value) (an:Option Addr) (eV ct v:Value) (us:List Value),us.length=n->bindArgs (fnOf x q (cK st) (aj st) (aL st) .none kV doc pm an eV ct) ⟨us,[(kw,v)]⟩=pure (ps.zip (us++[v]))
abbrev BD (K:Frag)(x q kw:Str)(st:Stmt)(n:Nat)(ps:List Str):Prop:=∀(doc pm:Value) (an:Option Addr) (eV ct:Value) (w:Addr) (wc:Value) (wd:Option Addr) (we:Array DictEntry) (wn:Nat) (ws:Array (Option Value)) (s:Shared),K.In s.heap->K.lookup w=some ⟨wc,wd,.dict we wn,ws⟩->gY we=true->nsFind we kw=some .none->∀us:List Value,us.length=n->BindsTo s (fnOf x q (cK st) (aj st) (aL st) .none (.ref w) doc pm an eV ct) ⟨us,[]⟩ (ps.zip (us++[.none]))
omit XK G in
theorem KwIn.kb (d:KwIn K x q kw st f fd)(hn:ps.length=n + 1)(hb:BK x q kw st n ps):rM K fd ps [kw] (gk n 1) (gk n 1):=by
 obtain⟨_,_,_,_,_,_,_,_,_,_,_,_,_,rfl,_⟩:=d;exact Rc hn QR λs us ws h1 h2=>match ws,h2 with | [v],_=>.of_eq (hb _ _ _ _ _ _ v us h1)
omit XK G in
theorem KwIn.dbs (d:KwIn K x q kw st f fd)(hn:ps.length=n + 1)(hb:BD K x q kw st n ps):Binds K fd ps [.none]:=by
 obtain⟨_,_,_,_,_,_,_,_,_,_,_,_,_,rfl,l,h1,h2⟩:=d;exactλs us hK hl=>hb _ _ _ _ _ _ _ _ _ _ _ s hK l h1 h2 us (by rw[ax,hn]at hl;exact Nat.succ.inj hl)
theorem DW.kc (d:DW K x kw st)(ok:∀{f fd},bQ K x x st f fd->dH P w K mg base oH k f fd ps sp)(hn:ps.length=n + 1:=by rfl)(hb:BK x x kw st n ps:=by walk_at "d1"):qy P w K mg base x k ps [kw] n 1 sp:=by
 obtain⟨f,fd,a,d⟩:=d;exact⟨f,fd,ok d.F,d.kb hn hb,d.F.kp,mI XK G a⟩
theorem DW.dc (d:DW K x kw st)(ok:∀{f fd},bQ K x x st f fd->dH P w K mg base oH k f fd ps sp)(hn:ps.length=n + 1:=by rfl)(hb:BD K x x kw st n ps:=by walk_at "d0"):M9 P w K mg base x k ps [.bO] sp:=by
 obtain⟨f,fd,a,d⟩:=d;exact⟨f,fd,_,ok d.F,d.dbs hn hb,.cons rfl .nil,d.F.kp,mI XK G a⟩
omit XK G in
theorem MW.kc (d:MW K C x q kw st)(ok:∀{f fd},bQ K x q st f fd->dH P w K mg base oH k f fd ps sp)(hn:ps.length=n + 1:=by rfl)(hb:BK x q kw st n ps:=by walk_at "d1"):K4 P w K mg base C x k ps [kw] n 1 sp:=by
 obtain⟨f,fd,a,d⟩:=d;exact⟨f,fd,⟨a.1,a.2,d.F.kp⟩,ok d.F,d.kb hn hb⟩
omit XK G in
theorem MW.dc (d:MW K C x q kw st)(ok:∀{f fd},bQ K x q st f fd->dH P w K mg base oH k f fd ps sp)(hn:ps.length=n + 1:=by rfl)(hb:BD K x q kw st n ps:=by walk_at "d0"):jJ P w K mg base C x k ps [.bO] sp:=by
 obtain⟨f,fd,a,d⟩:=d;exact⟨f,fd,[.none],⟨a.1,a.2,d.F.kp⟩,ok d.F,d.dbs hn hb,.cons rfl .nil⟩
end
theorem nk (h:decide N.Nodup=true:=by kernel_rfl):N.Nodup:=L9 h
theorem rm {k:Nat}(r:dB k A)(h:j<=k:=by decide):dB j A:=r.mono h
theorem Wb {P:List Str}(h:decide (sc.kind=.function/\sc.isCoroutine=false/\sc.isGenerator=false/\N.Nodup/\N.take P.length=P/\(∀x∈P,sc.names.lookup x=some .local∨sc.names.lookup x=some .cell)/\∀y∈sc.names,y.2≠.free)=true:=by kernel_rfl):eg N P sc:=by
 obtain⟨h1,h2,h3,h4,h5,h6,h7⟩:=L9 h;exact⟨h1,h2,h3,h4,h5,h6,h7⟩
section
variable {x:Str}{p:Pos}
theorem ck (N:List Str)(src:List (Option Nat))(kind:sc.kind=.function:=by rfl)(ok:uR X.N X.env.scope sc N src=true:=by rfl):zz X sc N src:=⟨kind,ok⟩
theorem gn (i:Nat)(hN:X.N.Nodup)(hi:X.N[i]?=some x:=by rfl)(hx:Loc X.env.scope x:=by exact Or.inl rfl)(hf:X.fn x=true∨X.env.scope.names.lookup x=some .local:=by first | exact .inl rfl | exact .inr rfl | assumption):JG X (.Name x pos) (cQ i):=EC hN hi hx hf
theorem ss (i:Nat)(hN:X.N.Nodup)(he:JE X e te)(hi:X.N[i]?=some x:=by rfl)(hx:Loc X.env.scope x:=by exact Or.inl rfl)(hs:swapsWith e (some (.Name x p)) pos.line X.env=pure false:=by rfl)(hf:X.fn x=true∨X.env.scope.names.lookup x=some .local:=by first | exact .inl rfl | exact .inr rfl | assumption):
   JS X (.Assign [.Name x p] e pos) (AJ te (cQ i)):=sset hN hi hx he hs hf
end
theorem EU (i:Nat){X:Cx}{x:Str}{p:Pos}(hN:X.N[i]?=some x:=by rfl)(hv:SJ X.env.scope x:=by first | exact Or.inl rfl | exact Or.inr (Or.inl rfl) | exact Or.inr (Or.inr rfl))(hd:(x==("__debug__":Str))=false:=by decide)
   (Cs:(x==("__classdict__":Str))=false:=by decide):JE X (.Name x p) (vM i):=evM (ev i hN hv hd Cs)
theorem Lc (i:Nat){X:Cx}{x:Str}{p:Pos}(hN:X.N[i]?=some x:=by rfl)(hv:SJ X.env.scope x:=by first | exact Or.inl rfl | exact Or.inr (Or.inl rfl) | exact Or.inr (Or.inr rfl))(hd:(x==("__debug__":Str))=false:=by decide)
   (Cs:(x==("__classdict__":Str))=false:=by decide):JE X (.Name x p) (yK (vM i)):=jm (evM (ev i hN hv hd Cs))
def bg:=@EU 0
def cF:=@EU 1
def fC:=@EU 2
def gB:=@EU 3
def nH:=@EU 4
def tZ:=@EU 5
def Cm:=@EU 6
def HL:=@EU 7
def yL:=@EU 8
def O8:=@EU 9
def Dz:=@EU 10
def HM:=@EU 11
def Se:=@EU 12
def Ld:=@EU 13
def cG:=@Lc 0
def lE:=@Lc 1
def HN:=@Lc 2
def Td:=@Lc 3
def Wc:=@Lc 4
def Zu:=@Lc 5
def NY:=@Lc 6
def jv7:=@Lc 7
def jv8:=@Lc 8
def Zv:=@Lc 9
def Zw:=@Lc 10
section
variable {e2:Expr}{t2:TE}{t:TA}{p:Pos}
theorem bX {K:Frag}{q:Addr}(o:HO)(h:L2.new K H q):Ext K H (upd H q o):=Ext.new h
theorem iq (h:JE X e te):JE X (.Subscript e (.Constant (.int i) j p) pos) (Gn (Ny X.K) te (tC (.int i))):=tV (uw jv) h ei λ_ _=>rfl
theorem Le (K:Frag)(h:JE X e te)(hk:X.K=K:=by rfl):JE X (.Subscript e (.Constant (.int i) j p) pos) (Gn (Ny K) te (tC (.int i))):=tV (uw (EH K hk)) h ei λ_ _=>rfl
theorem t6 (hm:X.mg "len"=none)(h:JE X e te)(hg:Gl X "len":=by rfl)(he:starEach [e] X.env=(false,eval e X.env)::starEach [] X.env:=by rfl)(nu:(backTo pos (starEach [] X.env)).any (·.1)=false:=by rfl):
   JE X (.Call (.Name "len" p) [e] [] pos) (QF (K1 X.K) (qi te wQ)):=bW (VQ yj) hg hm CT (aa h ah he) RF RF he nu
theorem yM (hm:X.mg "isinstance"=none)(h:JE X e te)(h2:JE X e2 t2)(hg:Gl X "isinstance":=by rfl)(he:starEach [e,e2] X.env=(false,eval e X.env)::starEach [e2] X.env:=by rfl)(Hs:starEach [e2] X.env=(false,eval e2 X.env)::starEach [] X.env:=by rfl)(nu:(backTo pos (starEach [e2] X.env)).any (·.1)=false:=by rfl):
   JE X (.Call (.Name "isinstance" p) [e,e2] [] pos) (QF (RI X.K) (qi te (qi t2 wQ))):=bW (isM zy) hg hm gI (aa h (aa h2 ah Hs) he) RF RF he nu
theorem ec {x:Str}{k k':Nat}(C:Callee X.prog X.w X.K X.mg X.base x k ps sp)(hr:dB k' X.A)(ha:JA X (e::es) t)(hle:k<=k':=by decide)(hg:Gl X x:=by rfl)
   (wR:(x==("__debug__":Str))=false:=by decide) (he:starEach (e::es) X.env=(false,eval e X.env)::starEach es X.env:=by rfl) (nu:(backTo pos (starEach es X.env)).any (·.1)=false:=by rfl):
   JE X (.Call (.Name x p) (e::es) [] pos) (xX sp [] E0 t):=qp C (hr.mono hle) hg ha wR he nu
theorem oR {k}(h:JA X es t):JE X (.Tuple es k pos) (KZ X.K t):=Tc (OM (am h))
theorem jx (h:JA X es t):JE X (.List es pos) (K0 X.K t):=Zi (ON (am h))
end
section
variable {K:Frag}{x qual:Str}{k:Nat}
theorem bQ.okA (F:bQ K x qual s0 f fd)(S:eg N ps (aL s0))
   (iP:∀(eV:Value) (A:Around) (outer:List Env) (s:Shared) (H:Hp) (vs:List V) (Q:VK) (E:XK),dB k (A.deeper (envOfC qual (aL s0) s.heap.objs.size f eV))->sp vs H Q E->
     ∃t,JB (qj oH P w K mg base N qual (aL s0) f eV A outer s H E).Mc (aj s0) t/\t { nx:=λ_ H'=>Q .bO H',rt:=Q } (st N vs) H)
   (len:∀vs H Q E,sp vs H Q E->vs.length=ps.length:=by walk_at "d3"):dH P w K mg base oH (k + 1) f fd ps sp:=F.okS S len iP
theorem bQ.Zx (F:bQ K x qual s0 f fd)(S:eg N ps (aL s0))
   (iP:∀(eV:Value) (A:Around) (outer:List Env) (s:Shared) (H:Hp) (vs:List V) (Q:VK) (E:XK),dB k (A.deeper (envOfC qual (aL s0) s.heap.objs.size f eV))->iE K H->sp vs H Q E->
     ∃t,JB (qj oH P w K mg base N qual (aL s0) f eV A outer s H E).Mc (aj s0) t/\t { nx:=λ_ H'=>Q .bO H',rt:=Q } (st N vs) H)
   (len:∀vs H Q E,sp vs H Q E->vs.length=ps.length:=by walk_at "d3"):dH P w K mg base oH (k + 1) f fd ps sp:=F.okT S len iP
end
end L2
namespace eO
open PySem L2
local macro_rules | `(tactic| simp_arith [$hs,*])=>do
 let c<-("!VR !VS !VT !VU !VW !VX !VY !VZ !V0 !V1 !RM !RO !RP !RQ !RS !RT !RU !RV !RW !RX !RY !RZ !R1 !R4 !R5 !R6 !VG !VH !VI !VJ !VL !VM !VN !V3 !V4 !Zk !Zl !Zb !Zc !Nx !Zd !Ze !Zf !HH !NB !NC !ND !K3 !R7 !R8 !R9 !HJ !HK VD VE VF qE O1 rA rC Xm OX VO OY zK Ny OZ O0 KW KY KZ K0 K1 RI Qf II Qi AJ cQ Ql Qg UA IK Gg tC Gn Yq Mf rI rU uJ tB Eh Mw Ei P8 Ym P9 Yn pI QF qi wQ Yt Yr xX List.getElem?_cons_zero List.getElem?_cons_succ List.set_cons_zero List.set_cons_succ Option.some.injEq V.int.injEq V.bl.injEq V.ref.injEq V.ty.injEq V.str.injEq List.cons.injEq exists_eq_left' exists_eq_left exists_and_left Qr true_and and_assoc cxK YC OH rEq rNe NG NH NI NJ NK NL NO NP NQ NR NS NT NU NV HO.lst.injEq HO.tup.injEq A3 QX QY QZ Q2 Q3 Q4 af CY CZ UY UZ U0 U1 FC L2.start List.map_cons List.map_nil List.length_cons List.length_nil Nat.reduceAdd Nat.reduceSub List.replicate_succ List.replicate_zero List.cons_append List.nil_append List.append_nil !GL !GN !GO !Ju CDv ME UG NA Int.reduceLE Int.reduceLT Int.reducePow Int.reduceToNat Int.reduceAdd Int.reduceSub Int.reduceMul Int.reduceNeg Nat.reduceLeDiff Nat.reducePow Nat.reduceLT Int.reduceEq true_or or_true ite_true ite_false Md FR Bool.not_true Bool.not_false fI decide_true decide_false M6 GP GQ aK Yu zj Jh Q8 JJ EE EF Cu U7 Q7 EG iy wN Yx QJ Ex QO MU Vm YU rJoin Yw Ni Rl Xa Ez Nj Ve !GR !JR !JU !JV !M8 JN JP JQ join_some pK CL Vc Vd Hg Kr Jp !NW YT Vn Rq Nl cxN xX Ro YW Ends.gone !KC Vo Kw Ky Nm Rr Nn KA Vq Rx !Dj !Hx !Ko Y6 Vs Rv Vv KL Ku MK Jb ML xY tAt UR Cw Y5 !KD !KJ KN tW Bl Vw !GY Hf Dc Kc !Km KU !HD KS O4 La V8".splitOn " ").toArray.mapM fun x=>if x.startsWith "!" then `(Lean.Parser.Tactic.simpLemma| ↓$(Lean.mkIdent (x.drop 1).toString.toName):ident) else `(Lean.Parser.Tactic.simpLemma| $(Lean.mkIdent x.toName):ident)
 let d:Lean.TSyntaxArray [`Lean.Parser.Tactic.simpStar,`Lean.Parser.Tactic.simpErase,`Lean.Parser.Tactic.simpLemma]:=c.map (⟨·.raw⟩)++hs.getElems
 `(tactic| ((try dsimp only[Zt,Zs,Zr]);simp only[$d,*]))
local macro_rules | `(tactic| walk_at "rd")=>`(tactic| simp_arith [nF])
local macro_rules | `(tactic| walk_at "rn")=>`(tactic| simp_arith [Qr])
set_option hygiene false
local macro_rules | `(tactic| walk_at "d0")=>`(tactic| (intro _ _ _ _ _ _ _ _ _ _ _ _ h1 h2 h3 h4;first | exact O5 λ_=>iJ h1 h2 h3 h4 (h₁:=rfl) rfl | exact O6 λ_ _=>iJ h1 h2 h3 h4 (h₁:=rfl) rfl | exact O7 λ_ _ _=>iJ h1 h2 h3 h4 (h₁:=rfl) rfl))
local macro_rules | `(tactic| walk_at "d1")=>`(tactic| (intro _ _ _ _ _ _ _;first | exact O5 λ_=>rfl | exact O6 λ_ _=>rfl | exact O7 λ_ _ _=>rfl))
local macro_rules | `(tactic| walk_at "d2")=>`(tactic| (intro _ _ _ _ _ _;first | exact O5 λ_=>rfl | exact O6 λ_ _=>rfl | exact O7 λ_ _ _=>rfl | exact Xp λ_ _ _ _=>rfl | exact Xq λ_ _ _ _ _=>rfl | exact Xr λ_ _ _ _ _ _=>rfl))
local macro_rules | `(tactic| walk_at "d3")=>`(tactic| (intro _ _ _ _ h;cases h;(repeat' (first | (subst_vars;rfl) | cases‹_/\_› | cases‹∃_,_›))))
local macro_rules | `(tactic| ext)=>`(tactic| try walk_at "rn")
local macro_rules | `(tactic| exists 0,$t:term)=>`(tactic| refine F.okA (N:=$t) Wb λeV A outer s H vs Q E hr h=>?_)
local macro_rules | `(⋯)=>`(Callee P w K mg base)
local macro_rules | `(!0)=>`(dH P w K mg base oH)
set_option hygiene true
variable{A C D Pv R T aZ av bG br dx f h kn p:Addr}{g:Addr->Int}{S:Addr->Option Int}{fd:FuncData}{o:HO}{H H' H0 H1:Hp}{Q:Hp->Prop}{b hi i last n turn:Int}{aA:List (Key×V)}{aX ms:List Int}{us vs ws xs:List V}{v0 v1:Option V}{m pl x:Str}{mg:Str->Option Value}{te:TE}{α:Type}{fl rv u:V}{w:World}
abbrev sX:Stmt:=top 16
abbrev vj:Stmt:=top 17
abbrev kW:Stmt:=top 18
abbrev Bs:Stmt:=top 19
abbrev qH:Stmt:=top 20
abbrev sY:Stmt:=top 21
abbrev sf:Stmt:=top 23
abbrev yN:Stmt:=top 24
abbrev yO:Stmt:=top 27
abbrev sZ:Stmt:=top 28
abbrev mD:Stmt:=top 29
abbrev Lf:Stmt:=top 30
abbrev sj:Stmt:=top 32
abbrev yP:Stmt:=top 33
abbrev oU:Stmt:=top 34
abbrev tu:Stmt:=top 37
abbrev qI:Stmt:=top 38
abbrev jj:Stmt:=top 39
abbrev qJ:Stmt:=top 40
abbrev mE:Stmt:=top 41
abbrev Bt:Stmt:=top 42
abbrev vm:Stmt:=top 43
abbrev tD:Stmt:=top 44
abbrev vn:Stmt:=top 45
abbrev iW:Stmt:=top 46
abbrev kX:Stmt:=top 47
abbrev vo:Stmt:=top 49
abbrev EV:Stmt:=top 51
abbrev vp:Stmt:=top 52
abbrev Lg:Stmt:=top 53
abbrev kY:Stmt:=inClass (top 55) 0
abbrev jK:Stmt:=inClass (top 56) 0
abbrev mF:Stmt:=top 57
abbrev oV:Stmt:=top 58
abbrev jL:Stmt:=inClass (top 59) 0
abbrev tF:Stmt:=top 60
abbrev oW:Stmt:=top 62
abbrev fP:Stmt:=top 63
abbrev vq:Stmt:=top 64
abbrev jk:Stmt:=top 65
abbrev yQ:Stmt:=top 66
abbrev jl:Stmt:=top 67
abbrev qK:Stmt:=top 68
abbrev qL:Stmt:=top 70
abbrev vt:Stmt:=top 72
abbrev oX:Stmt:=top 73
abbrev fZ:Stmt:=top 74
abbrev vz:Stmt:=top 79
abbrev jM:Stmt:=inClass (top 84) 0
abbrev oY:Stmt:=inClass (top 84) 4
abbrev qM:Stmt:=inClass (top 84) 5
abbrev oZ:Stmt:=inClass (top 84) 20
abbrev gb:Stmt:=top 85
abbrev vA:Stmt:=top 87
abbrev o6:Stmt:=top 88
abbrev yR:Stmt:=top 89
abbrev qN:Stmt:=top 90
abbrev jN:Stmt:=top 91
abbrev bT:Stmt:=inClass (top 92) 0
abbrev cD:Stmt:=inClass (top 92) 1
abbrev jn:Stmt:=inClass (top 92) 2
abbrev gc:Stmt:=inClass (top 92) 3
abbrev iA:Stmt:=inClass (top 92) 4
abbrev bN:Stmt:=inClass (top 92) 5
abbrev cj:Stmt:=inClass (top 92) 6
abbrev o7:Stmt:=top 93
abbrev vB:Stmt:=top 94
abbrev mG:Stmt:=top 96
abbrev tG:Stmt:=top 97
abbrev tH:Stmt:=top 98
abbrev qO:Stmt:=top 99
abbrev o8:Stmt:=top 100
abbrev gP:Stmt:=top 101
abbrev mH:Stmt:=top 102
abbrev fQ:Stmt:=top 103
abbrev fR:Stmt:=top 104
abbrev eY:Stmt:=top 105
abbrev bH:Stmt:=top 106
abbrev j6:Stmt:=top 107
abbrev jo:Stmt:=top 108
abbrev bA:Stmt:=top 109
abbrev cT:Stmt:=top 110
abbrev vC:Stmt:=top 112
abbrev qP:Stmt:=top 113
abbrev bF:Stmt:=top 114
abbrev O9:Stmt:=top 115
structure B (K:Frag)(mg:Str->Option Value)(aG aP aM az:Addr)(tE t1 t2 t3 t4:Tok):Prop where
 all:mg "all"=none
 bool:mg "bool"=none
 enumerate:mg "enumerate"=none
 int:mg "int"=none
 isinstance:mg "isinstance"=none
 len:mg "len"=none
 list:mg "list"=none
 max:mg "max"=none
 min:mg "min"=none
 range:mg "range"=none
 repr:mg "repr"=none
 reversed:mg "reversed"=none
 set:mg "set"=none
 sorted:mg "sorted"=none
 str:mg "str"=none
 tuple:mg "tuple"=none
 zip:mg "zip"=none
 Wd:mg "END"=some (.int 1000000000000 tE)
 HP:mg "MOST_TRAY"=some (.int 64 t1)
 HQ:mg "LEAST_FAN"=some (.int 3 t2)
 Lh:mg "MOST_FAN"=some (.int 16 t3)
 HR:mg "MOST_ROWS"=some (.int 64 t4)
 We:mg "PLANS"=some (.ref aP)
 Wf:mg "GONE"=some (.ref aG)
 Wg:mg "Leaf"=some (.ref aM)
 Inner:mg "Inner"=some (.ref az)
 kP:jI K aP=some [.str "fullest",.str "eldest"]
 kG:jI K aG=some [.str "gone"]
 cL:uo K aM
 kLL:kitOne K (.ref aM) (.ref aM)=some true
 kLI:kitOne K (.ref aM) (.ref az)=some false
 tL:findIn K (.ref aM) "__class__"=some (some (.builtin "object.__class__"))/\PySem.W.mroIn K aM (.type "object")=some true
 cI:uo K az
 kIL:kitOne K (.ref az) (.ref aM)=some false
 kII:kitOne K (.ref az) (.ref az)=some true
 tI:findIn K (.ref az) "__class__"=some (some (.builtin "object.__class__"))/\PySem.W.mroIn K az (.type "object")=some true
 tO:PySem.W.specialIn K (.builtin "object.__class__") "__get__"=some (some (.builtin "getset_descriptor.__get__"))/\PySem.W.takesIn K (.builtin "object.__class__")=some true
 nL:bK K aM "number"/\bK K aM "rows"
 nI:bK K az "number"/\bK K az "pivots"/\bK K az "children"/\bK K az "tray"
section
variable {K:Frag}{aG aP aM az:Addr}{tE t1 t2 t3 t4:Tok}
theorem B.vD (_:B K mg aG aP aM az tE t1 t2 t3 t4):RelV (.int 1000000000000) (.int 1000000000000 tE):=⟨tE,rfl⟩
theorem B.zL (_:B K mg aG aP aM az tE t1 t2 t3 t4):RelV (.int 64) (.int 64 t1):=⟨t1,rfl⟩
theorem B.zN (_:B K mg aG aP aM az tE t1 t2 t3 t4):RelV (.int 3) (.int 3 t2):=⟨t2,rfl⟩
theorem B.Bu (_:B K mg aG aP aM az tE t1 t2 t3 t4):RelV (.int 16) (.int 16 t3):=⟨t3,rfl⟩
theorem B.zO (_:B K mg aG aP aM az tE t1 t2 t3 t4):RelV (.int 64) (.int 64 t4):=⟨t4,rfl⟩
theorem B.Li (_:B K mg aG aP aM az tE t1 t2 t3 t4):RelV (.ref aP) (.ref aP):=rfl
theorem B.EW (_:B K mg aG aP aM az tE t1 t2 t3 t4):RelV (.ref aG) (.ref aG):=rfl
theorem B.EX (_:B K mg aG aP aM az tE t1 t2 t3 t4):RelV (.ref aM) (.ref aM):=rfl
theorem B.Lj (_:B K mg aG aP aM az tE t1 t2 t3 t4):RelV (.ref az) (.ref az):=rfl
theorem B.Zy (B:B K mg aG aP aM az tE t1 t2 t3 t4){a:Addr}{fs:List (Str×V)}(h:H a=some (.ins aM dx fs)):oE K H (.ref a) (.ref aM):=.ins h B.cL B.tL.1 B.tO.1 B.tO.2 B.tL.2
theorem B.Zz (B:B K mg aG aP aM az tE t1 t2 t3 t4){a:Addr}{fs:List (Str×V)}(h:H a=some (.ins az dx fs)):oE K H (.ref a) (.ref az):=.ins h B.cI B.tI.1 B.tO.1 B.tO.2 B.tI.2
end
def on:Option Int->V
 | none=>.bO
 | some i=>.int i
def wO (lo hi:Int):Option Int->Bool
 | some i=>decide (lo<=i/\i<=hi)
 | none=>false
def fO (lo:Int):Option Int->Bool
 | some i=>decide (lo<=i)
 | none=>false
section
variable {P:Program}{K:Frag}{base:Heap}{aG aP aM az:Addr}{tE t1 t2 t3 t4:Tok}(B:B K mg aG aP aM az tE t1 t2 t3 t4)
def j7:Sp:=λvs H Q _=>∃o,vs=[on o]/\Q (.bl o.isSome) H
def mJ:Sp:=λvs H Q _=>∃o lo hi,vs=[on o,.int lo,.int hi]/\Q (.bl (wO lo hi o)) H
def uA:Sp:=λvs H Q _=>∃o lo,vs=[on o,.int lo]/\Q (.bl (fO lo o)) H
include B in
theorem zP (F:bQ K "is_number" "is_number" sX f fd):(!0) 1 f fd ["thing"] j7:=by
 exists 0,["thing"]
 obtain⟨o,rfl,q⟩:=h;refine⟨_,(aE (aN (Az (eE (jm (yM B.isinstance bg (jH rfl B.int rP))) (gA (Zg (Q6 (jm (yM B.isinstance bg (jH rfl B.bool EB)))))))))),?_⟩
 ext
 cases o with
 | none=>exact⟨_,.inl .bO,false,rfl,q⟩
 | some i=>exact⟨_,.inl (.int i),true,rfl,_,.inl (.int i),false,rfl,q⟩
include B in
theorem Bv (F:bQ K "is_whole" "is_whole" vj f fd)(aV:⋯ "is_number" 1 ["thing"] j7):(!0) 2 f fd ["thing","low","high"] mJ:=by
 exists 0,["thing","low","high"]
 obtain⟨o,lo,hi,rfl,q⟩:=h;refine⟨_,(aE (aN (eE (ec aV hr (aa bg ah)) (gA (RJ (C0 (om (mA fX)) (mA fX) lE cG fC)))))),?_⟩
 ext
 refine⟨o,rfl,_,rfl,?_⟩;cases o with
 | none=>exact aJ RF q
 | some i=>
   refine bq rfl ⟨_,rfl,?_⟩;simp only[wO]at q;split
   . rename_i c
     simp only[c,true_and]at q;exact⟨_,rfl,q⟩
   . rename_i c
     simp only[c,false_and,decide_false]at q;exact q
include B in
theorem sq (F:bQ K "is_whole_from" "is_whole_from" kW f fd)(aV:⋯ "is_number" 1 ["thing"] j7):(!0) 2 f fd ["thing","low"] uA:=by
 exists 0,["thing","low"]
 obtain⟨o,lo,rfl,q⟩:=h;refine⟨_,(aE (aN (eE (ec aV hr (aa bg ah)) (gA (fE (mA fX) cF bg (aF _)))))),?_⟩
 ext
 refine⟨o,rfl,_,rfl,?_⟩;cases o with
 | none=>exact aJ RF q
 | some i=>exact bq rfl ⟨_,rfl,q⟩
theorem gf {K:Frag}{c:Addr}{L:List α}{f g:α->V}{rest:St}(hk:aR K H c (L.map f))(nD:new K H D)(hz:L.length<=16000000)
   (elt:∀q∈L,∀H' (Q:VK),Ext K H H'->(∀H'',Ext K H' H''->Q (g q) H'')->te (some (f q)::rest) H' Q)
   (fin:∀H',H' D=some (.lst (L.map g))->Ext K H H'->Q H'):b7 (sQ K c) (cQ 0) pK te D Q (v0::rest) (upd H D (.lst [])):=by
 refine iF (xs:=L.map f) (λi acc σ' H'=>∃(v0:Option V),σ'=v0::rest/\H' D=some (.lst acc)/\acc=(L.take i).map g/\Kp K D (upd H D (.lst [])) H') ?_ ?_ ?_ ?_
 . exact⟨_,rfl,af,rfl,Kp.refl⟩
 . rintro i acc σ' H' _ ⟨v0,rfl,hD,rfl,k⟩;exact(k.ext nD).same.seq hk
 . rintro i x acc σ' H' hx ⟨v0,rfl,hD,rfl,k⟩;rw[bb]at hx;obtain⟨q,ek,rfl⟩:=bj.mp hx;have hlen:((L.take i).map g).length<=16000000:=by rw[ab,fb];omega
   unfold cQ pK;refine UW ?_;refine elt q (ba ek) H' _ (k.ext nD) λH'' x''=>⟨x''.at hD,dt hlen RF,_,rfl,af,?_,k.trans (x''.kp.trans (Kp.upd (x''.at hD)))⟩
   rw[List.take_add_one,ek,ip,bo];rfl
 . rintro acc σ' H' ⟨v0,rfl,hD,rfl,k⟩;rw[ab,dv]at hD;exact fin H' hD (k.ext nD)
inductive bP where
 | plus (n:Int) | is (n:Int) | gone
def bP.v:bP->List V
 | .plus n=>[.str "plus",.int n]
 | .is n=>[.str "is",.int n]
 | .gone=>[.str "gone"]
theorem s5:¬ (("inner":Str)="leaf"):=Q1
theorem s3:¬ (("is":Str)="plus"):=Q1
def bP.hd:bP->PyData
 | .plus n=>.tuple [.str "plus",.int n]
 | .is n=>.tuple [.str "is",.int n]
 | .gone=>.tuple [.str "gone"]
theorem bP.EY {K:Frag}{r:Addr}{h:bP}(e:tupQ K H r=some h.v):Is K H h.hd (.ref r):=by
 cases h with
 | plus n=>simp only[bP.hd,Is,dU];exact⟨r,_,rfl,nB e,_,_,rfl,rfl,_,_,rfl,rfl,rfl⟩
 | is n=>simp only[bP.hd,Is,dU];exact⟨r,_,rfl,nB e,_,_,rfl,rfl,_,_,rfl,rfl,rfl⟩
 | gone=>simp only[bP.hd,Is,dU];exact⟨r,_,rfl,nB e,_,_,rfl,rfl,rfl⟩
theorem bP.shaped (h:bP):SeqAt.shaped h.hd=true:=by
 cases h <;> simp only[SeqAt.shaped,bP.hd,PyData.canLay0,PyData.canLayAll0,PyData.depth,PyData.depthAll] <;> decide +kernel
theorem bP.Bw (h:bP):PyData.eqv h.hd bP.gone.hd=(match h with | .gone=>true | _=>false):=by
 cases h <;> rfl
structure Nt where
 n:Int
 lo:Int
 hi:Int
 t:bP
 m:bP
mutual
def aS (K:Frag)(H0 H:Hp):PyData->V->Prop
 | .none,v=>v=.bO
 | .int i,v=>v=.int i
 | .str x,v=>v=.str x
 | .list ds,v=>∃a vs,v=.ref a/\new K H0 a/\H a=some (.lst vs)/\ao K H0 H ds vs
 | .tuple ds,v=>∃a vs,v=.ref a/\tupQ K H a=some vs/\ao K H0 H ds vs
 | .bool _,_=>False
 | .dict _,_=>False
def ao (K:Frag)(H0 H:Hp):List PyData->List V->Prop
 | [],vs=>vs=[]
 | d::ds,vs=>∃v r,vs=v::r/\aS K H0 H d v/\ao K H0 H ds r
end
section
variable {K:Frag}
theorem bL (x:Ext K H H')(n:new K H' T):new K H T:=by
 refine⟨?_,n.2⟩;cases z:H T with
 | none=>rfl
 | some o=>have:=x.at z;rw[n.1]at this;cases this
mutual
theorem aS.ext (x:Ext K H H'):∀{d:PyData}{v:V},aS K H0 H d v->aS K H0 H' d v
 | .none,v,h=>h
 | .int i,v,h=>h
 | .str s,v,h=>h
 | .list ds,v,h=>by
   unfold aS at h ⊢;obtain⟨a,vs,e,n,ha,hs⟩:=h;exact⟨a,vs,e,n,x.at ha,ao.ext x hs⟩
 | .tuple ds,v,h=>by
   unfold aS at h ⊢;obtain⟨a,vs,e,ha,hs⟩:=h;exact⟨a,vs,e,x.tup ha,ao.ext x hs⟩
 | .bool _,v,h=>h
 | .dict _,v,h=>h
theorem ao.ext (x:Ext K H H'):∀{ds:List PyData}{vs:List V},ao K H0 H ds vs->ao K H0 H' ds vs
 | [],vs,h=>h
 | d::ds,vs,h=>by
   unfold ao at h ⊢;obtain⟨v,r,e,h1,h2⟩:=h;exact⟨v,r,e,aS.ext x h1,ao.ext x h2⟩
end
mutual
theorem aS.pN (x:∀a,new K H0 a->new K H1 a):∀{d:PyData}{v:V},aS K H0 H d v->aS K H1 H d v
 | .none,v,h=>h
 | .int i,v,h=>h
 | .str s,v,h=>h
 | .list ds,v,h=>by
   unfold aS at h ⊢;obtain⟨a,vs,e,n,ha,hs⟩:=h;exact⟨a,vs,e,x a n,ha,ao.pN x hs⟩
 | .tuple ds,v,h=>by
   unfold aS at h ⊢;obtain⟨a,vs,e,ha,hs⟩:=h;exact⟨a,vs,e,ha,ao.pN x hs⟩
 | .bool _,v,h=>h
 | .dict _,v,h=>h
theorem ao.pN (x:∀a,new K H0 a->new K H1 a):∀{ds:List PyData}{vs:List V},ao K H0 H ds vs->ao K H1 H ds vs
 | [],vs,h=>h
 | d::ds,vs,h=>by
   unfold ao at h ⊢;obtain⟨v,r,e,h1,h2⟩:=h;exact⟨v,r,e,aS.pN x h1,ao.pN x h2⟩
end
theorem ao.old (x:Ext K H1 H0){ds:List PyData}(h:ao K H0 H ds vs):ao K H1 H ds vs:=h.pN λ_ n=>bL x n
mutual
theorem aS.kp {D:Addr}{o:HO}{xs:List V}(h0:H0 D=some o)(hD:H D=some (.lst xs))(k:Kp K D H H'):∀{d:PyData}{v:V},aS K H0 H d v->aS K H0 H' d v
 | .none,v,h=>h
 | .int i,v,h=>h
 | .str s,v,h=>h
 | .list ds,v,h=>by
   unfold aS at h ⊢;obtain⟨a,vs,e,n,ha,hs⟩:=h;exact⟨a,vs,e,n,k.keep a _ ha (λz=>by rw[z]at n;rw[n.1]at h0;cases h0),ao.kp h0 hD k hs⟩
 | .tuple ds,v,h=>by
   unfold aS at h ⊢;obtain⟨a,vs,e,ha,hs⟩:=h;exact⟨a,vs,e,k.tup hD ha,ao.kp h0 hD k hs⟩
 | .bool _,v,h=>h
 | .dict _,v,h=>h
theorem ao.kp {D:Addr}{o:HO}{xs:List V}(h0:H0 D=some o)(hD:H D=some (.lst xs))(k:Kp K D H H'):∀{ds:List PyData}{vs:List V},ao K H0 H ds vs->ao K H0 H' ds vs
 | [],vs,h=>h
 | d::ds,vs,h=>by
   unfold ao at h ⊢;obtain⟨v,r,e,h1,h2⟩:=h;exact⟨v,r,e,aS.kp h0 hD k h1,ao.kp h0 hD k h2⟩
end
mutual
theorem aS.is:∀{d:PyData}{v:V},aS K H0 H d v->Is K H d v
 | .none,v,h=>by unfold aS at h;unfold Is;exact h
 | .int i,v,h=>by unfold aS at h;unfold Is;exact h
 | .str s,v,h=>by unfold aS at h;unfold Is;exact h
 | .list ds,v,h=>by
   unfold aS at h;unfold Is;obtain⟨a,vs,e,n,ha,hs⟩:=h;exact⟨a,vs,e,aR.of ha,ao.is hs⟩
 | .tuple ds,v,h=>by
   unfold aS at h;unfold Is;obtain⟨a,vs,e,ha,hs⟩:=h;exact⟨a,vs,e,nB ha,ao.is hs⟩
 | .bool _,v,h=>by unfold aS at h;exact h.elim
 | .dict _,v,h=>by unfold aS at h;exact h.elim
theorem ao.is:∀{ds:List PyData}{vs:List V},ao K H0 H ds vs->dU K H ds vs
 | [],vs,h=>by unfold ao at h;unfold dU;exact h
 | d::ds,vs,h=>by
   unfold ao at h;unfold dU;obtain⟨v,r,e,h1,h2⟩:=h;exact⟨v,r,e,aS.is h1,ao.is h2⟩
end
theorem ao.nil:ao K H0 H [] []:=by unfold ao;rfl
theorem ao.cons {d:PyData}{ds:List PyData}{v:V}(h:aS K H0 H d v)(g:ao K H0 H ds vs):ao K H0 H (d::ds) (v::vs):=by
 unfold ao;exact⟨v,vs,rfl,h,g⟩
theorem ao.snoc:∀{ds:List PyData}{vs:List V}{d:PyData}{v:V},ao K H0 H ds vs->aS K H0 H d v->ao K H0 H (ds++[d]) (vs++[v])
 | [],vs,d,v,h,g=>by
   unfold ao at h;subst h;exact .cons g .nil
 | e::ds,vs,d,v,h,g=>by
   unfold ao at h;obtain⟨w,r,rfl,h1,h2⟩:=h;exact .cons h1 (ao.snoc h2 g)
theorem ao.len:∀{ds:List PyData}{vs:List V},ao K H0 H ds vs->vs.length=ds.length
 | [],vs,h=>by unfold ao at h;subst h;rfl
 | e::ds,vs,h=>by
   unfold ao at h;obtain⟨w,r,rfl,h1,h2⟩:=h;rw[List.length_cons,List.length_cons,ao.len h2]
theorem ao.get:∀{ds:List PyData}{vs:List V}{i:Nat}{v:V},ao K H0 H ds vs->vs[i]?=some v->∃d,ds[i]?=some d/\aS K H0 H d v
 | [],vs,i,v,h,e=>by unfold ao at h;subst h;cases e
 | d::ds,vs,i,v,h,e=>by
   unfold ao at h;obtain⟨w,r,rfl,h1,h2⟩:=h;cases i with
   | zero=>cases e;exact⟨d,rfl,h1⟩
   | succ i=>
     obtain⟨d',e',h'⟩:=ao.get (i:=i) h2 (by simpa using e);exact⟨d',by simpa using e',h'⟩
theorem aS.nn {v:V}:aS K H0 H .none v↔v=.bO:=by unfold aS;exact Iff.rfl
theorem aS.ii {v:V}:aS K H0 H (.int i) v↔v=.int i:=by unfold aS;exact Iff.rfl
theorem aS.ss {v:V}:aS K H0 H (.str x) v↔v=.str x:=by unfold aS;exact Iff.rfl
theorem aS.tt {v:V}{ds:List PyData}:aS K H0 H (.tuple ds) v↔∃a vs,v=.ref a/\tupQ K H a=some vs/\ao K H0 H ds vs:=by
 conv=>lhs;unfold aS
theorem aS.ll {v:V}{ds:List PyData}:aS K H0 H (.list ds) v↔∃a vs,v=.ref a/\new K H0 a/\H a=some (.lst vs)/\ao K H0 H ds vs:=by
 conv=>lhs;unfold aS
theorem ao.nn :ao K H0 H [] vs↔vs=[]:=by unfold ao;exact Iff.rfl
theorem ao.cc {d:PyData}{ds:List PyData}:ao K H0 H (d::ds) vs↔∃v r,vs=v::r/\aS K H0 H d v/\ao K H0 H ds r:=by
 conv=>lhs;unfold ao
def EZ:Option Int->PyData
 | none=>.none
 | some i=>.int i
theorem aS.oo {v:V}{o:Option Int}:aS K H0 H (EZ o) v↔v=on o:=by cases o <;> unfold EZ aS on <;> exact Iff.rfl
end
def rising:List Int->Bool
 | a::b::r=>decide (a < b)&&rising (b::r)
 | _=>true
theorem vE:∀ns:List Int,(List.zipWith (λa b:Int=>decide (a < b)) ns (ns.drop 1)).all id=rising ns
 | []=>rfl
 | [_]=>rfl
 | a::b::r=>by
   have:=vE (b::r);unfold rising;rw[<- this];rfl
abbrev jq:=Int×Option Int
def iH (p:jq):PyData:=.tuple [.int p.1,EZ p.2]
def fk (r:Int×List jq):PyData:=.tuple [.int r.1,.list (r.2.map iH)]
def HS:Option bP->PyData
 | none=>.none
 | some h=>h.hd
structure RN where
 n:Option Int
 lo:Option Int
 hi:Option Int
 a:Option bP
 b:Option bP
def RN.d (r:RN):PyData:=.tuple [EZ r.n,EZ r.lo,EZ r.hi,.tuple [HS r.a,HS r.b]]
def Pa (ws:List Str):Option bP->Bool
 | none=>false
 | some .gone=>true
 | some (.plus _)=>decide (Str.ofString "plus"∈ws)
 | some (.is _)=>decide (Str.ofString "is"∈ws)
def PI:List Str:=[Str.ofString "plus",Str.ofString "is"]
def HU (a b:Option Int):Bool:=wO 0 1000000000000 a&&wO 0 1000000000000 b&&(match a,b with | some x,some y=>decide (x < y) | _,_=>false)
def Sf (a b:Option Int):Bool:=match a,b with
 | some x,some y=>decide (y - x=1)
 | _,_=>false
def DA:Option bP->Bool
 | some .gone=>true
 | _=>false
def vF (r:RN):Bool:=fO 1 r.n&&HU r.lo r.hi&&(Pa PI r.a&&Pa [Str.ofString "is"] r.b)&&(Sf r.lo r.hi||DA r.b)
def zQ (ps:List jq):Bool:=!ps.isEmpty&&ps.all (λp=>decide (0<=p.1))&&rising (ps.map (·.1))
def E3 (r:Int×List jq):Bool:=decide (0<=r.1/\r.1<=999999999999)&&zQ r.2
def vG (rs:List (Int×List jq)):Bool:=rs.all E3&&rising (rs.map (·.1))
theorem NZ {K:Frag}{c:Addr}{L:List α}{f:α->V}{g:α->PyData}{rest:St}(hk:aR K H c (L.map f))(nD:new K H D)(hz:L.length<=16000000)
   (elt:∀q∈L,∀H' (Q:VK),Ext K H H'->(∀v H'',Ext K H' H''->aS K H' H'' (g q) v->Q v H'')->te (some (f q)::rest) H' Q)
   (fin:∀vs H',H' D=some (.lst vs)->ao K H H' (L.map g) vs->Ext K H H'->Q H'):b7 (sQ K c) (cQ 0) pK te D Q (v0::rest) (upd H D (.lst [])):=by
 refine iF (xs:=L.map f) (λi acc σ' H'=>∃(v0:Option V),σ'=v0::rest/\H' D=some (.lst acc)/\ao K (upd H D (.lst [])) H' ((L.take i).map g) acc/\Kp K D (upd H D (.lst [])) H') ?_ ?_ ?_ ?_
 . exact⟨_,rfl,af,.nil,Kp.refl⟩
 . rintro i acc σ' H' _ ⟨v0,rfl,hD,_,k⟩;exact(k.ext nD).same.seq hk
 . rintro i x acc σ' H' hx ⟨v0,rfl,hD,ha,k⟩;rw[bb]at hx;obtain⟨q,ek,rfl⟩:=bj.mp hx;have hlen:acc.length<=16000000:=by rw[ha.len,ab,fb];omega
   unfold cQ pK;refine UW ?_;refine elt q (ba ek) H' _ (k.ext nD) λv H'' x'' hv=>?_;have kk:Kp K D H'' (upd H'' D (.lst (acc++[v]))):=Kp.upd (x''.at hD);have xo:∀a,new K H' a->new K (upd H D (.lst [])) a:=λa n=>by
     refine⟨?_,n.2⟩;cases z:upd H D (.lst []) a with
     | none=>rfl
     | some o=>
       by_cases e:a=D
       . have:=n.1;rw[e,hD]at this;cases this
       . have:=k.keep a o z e;rw[n.1]at this;cases this
   have hv2:aS K (upd H D (.lst [])) H'' (g q) v:=by
     have:=hv;exact aS.pN xo this
   refine⟨x''.at hD,dt hlen RF,_,rfl,af,?_,k.trans (x''.kp.trans kk)⟩;rw[List.take_add_one,ek,ip,bo];exact ao.kp af (x''.at hD) kk (ao.snoc (ha.ext x'') hv2)
 . rintro acc σ' H' ⟨v0,rfl,hD,ha,k⟩;rw[ab,dv]at ha;exact fin acc H' hD (ha.old (Ext.new nD)) (k.ext nD)
section
variable {K:Frag}
theorem zR {o:Option bP}{v:V}(h:aS K H0 H (HS o) v):(o=none/\v=.bO)∨∃x a,o=some x/\v=.ref a/\tupQ K H a=some x.v:=by
 cases o with
 | none=>exact .inl ⟨rfl,aS.nn.mp h⟩
 | some x=>
   right
   cases x <;> (unfold HS bP.hd at h;simp only[aS.tt,ao.cc,ao.nn,aS.ss,aS.ii]at h)
   . obtain⟨a,vs,rfl,ha,v1,r1,rfl,rfl,v2,r2,rfl,rfl,rfl⟩:=h;exact⟨_,a,rfl,rfl,ha⟩
   . obtain⟨a,vs,rfl,ha,v1,r1,rfl,rfl,v2,r2,rfl,rfl,rfl⟩:=h;exact⟨_,a,rfl,rfl,ha⟩
   . obtain⟨a,vs,rfl,ha,v1,r1,rfl,rfl,rfl⟩:=h;exact⟨_,a,rfl,rfl,ha⟩
theorem nJ {p:jq}{v:V}(h:aS K H0 H (iH p) v):∃a,v=.ref a/\tupQ K H a=some [.int p.1,on p.2]:=by
 unfold iH at h;simp only[aS.tt,ao.cc,ao.nn,aS.oo,aS.ii]at h;obtain⟨a,vs,rfl,ha,v1,r1,rfl,rfl,v2,r2,rfl,rfl,rfl⟩:=h;exact⟨a,rfl,ha⟩
theorem j8 {r:Int×List jq}{v:V}(h:aS K H0 H (fk r) v):∃a D vs,v=.ref a/\tupQ K H a=some [.int r.1,.ref D]/\H D=some (.lst vs)/\ao K H0 H (r.2.map iH) vs:=by
 unfold fk at h;simp only[aS.tt,ao.cc,ao.nn,aS.ll,aS.ii]at h;obtain⟨a,vs,rfl,ha,v1,r1,rfl,rfl,v2,r2,rfl,⟨D,ws,rfl,n,hD,hw⟩,rfl⟩:=h;exact⟨a,D,ws,rfl,ha,hD,hw⟩
theorem Lk {r:RN}{v:V}(h:aS K H0 H r.d v):∃a b u1 u2,v=.ref a/\tupQ K H a=some [on r.n,on r.lo,on r.hi,.ref b]/\tupQ K H b=some [u1,u2]/\aS K H0 H (HS r.a) u1/\aS K H0 H (HS r.b) u2:=by
 unfold RN.d at h;simp only[aS.tt,ao.cc,ao.nn,aS.oo]at h;obtain⟨a,vs,rfl,ha,v1,r1,rfl,rfl,v2,r2,rfl,rfl,v3,r3,rfl,rfl,v4,r4,rfl,⟨b,ws,rfl,hb,u1,s1,rfl,h1,u2,s2,rfl,h2,rfl⟩,rfl⟩:=h;exact⟨a,b,u1,u2,rfl,ha,hb,h1,h2⟩
theorem ao.zip {α:Type}{d:α->PyData}:∀{ps:List α}{vs:List V},ao K H0 H (ps.map d) vs->∃L:List (V×α),vs=L.map (·.1)/\ps=L.map (·.2)/\∀q∈L,aS K H0 H (d q.2) q.1
 | [],vs,h=>⟨[],ao.nn.mp h,rfl,λ_ h=>nomatch h⟩
 | p::ps,vs,h=>by
   obtain⟨v,r,rfl,h1,h2⟩:=ao.cc.mp h;obtain⟨L,rfl,rfl,hL⟩:=ao.zip h2;refine⟨(v,p)::L,rfl,rfl,λq hq=>?_⟩;rcases List.mem_cons.mp hq with rfl | hq
   . exact h1
   . exact hL q hq
def LstAt (K:Frag)(H0 H:Hp)(d:α->PyData):Option (List α)->V->Prop
 | none,v=>v=.bO
 | some l,v=>∃D us,v=.ref D/\new K H0 D/\H D=some (.lst us)/\ao K H0 H (l.map d) us
theorem LstAt.ext {d:α->PyData}{o:Option (List α)}{v:V}(x:Ext K H H')(h:LstAt K H0 H d o v):LstAt K H0 H' d o v:=by
 cases o with
 | none=>exact h
 | some l=>
   obtain⟨D,us,e,n,hD,hu⟩:=h;exact⟨D,us,e,n,x.at hD,hu.ext x⟩
theorem ao.ints:∀{ns:List Int}{us:List V},ao K H0 H (ns.map PyData.int) us->us=ns.map V.int
 | [],us,h=>ao.nn.mp h
 | n::ns,us,h=>by
   obtain⟨v,r,rfl,h1,h2⟩:=ao.cc.mp h;rw[aS.ii.mp h1,ao.ints h2];rfl
end
def Wh:Option (List (Int×List jq))->Bool
 | none=>false
 | some l=>vG l
def DB:Option (List RN)->Bool
 | none=>false
 | some l=>l.all vF
def Sg (o:Option (List α)):Prop:=∀l,o=some l->l.length<=1000000
theorem all_true (m:Nat):(List.replicate m true).all id=true:=by
 rw[eI];intro x hx;rw[(List.mem_replicate.1 hx).2];rfl
theorem all_map (L:List α):L.map (λ_=>V.bl true)=(List.replicate L.length true).map V.bl:=by
 rw[List.map_const',List.map_replicate]
def DC:Sp:=λvs H Q _=>∃o,vs=[on o]/\Q (.bl (wO 0 999999999999 o)) H
include B in
theorem HV (F:bQ K "is_key" "is_key" Bs f fd)(bM:⋯ "is_whole" 2 ["thing","low","high"] mJ):(!0) 3 f fd ["thing"] DC:=by
 exists 0,["thing"]
 obtain⟨o,rfl,q⟩:=h;refine⟨_,(aE (aN (ec bM hr (aa bg (aa ei (aa (cA (mA fW) (iR rfl B.Wd B.vD) ei) ah)))))),?_⟩
 ext
 exact⟨o,_,_,rfl,q⟩
def Ll:Sp:=λvs H Q _=>∃a b,vs=[on a,on b]/\Q (.bl (HU a b)) H
include B in
theorem wZ (F:bQ K "is_stretch" "is_stretch" qH f fd)(bM:⋯ "is_whole" 2 ["thing","low","high"] mJ):(!0) 3 f fd ["low","high"] Ll:=by
 exists 0,["low","high"]
 obtain⟨a,b,rfl,q⟩:=h;refine⟨_,(aE (aN (eE (ec bM hr (aa bg (aa ei (aa (iR rfl B.Wd B.vD) ah)))) (eE (ec bM hr (aa cF (aa ei (aa (iR rfl B.Wd B.vD) ah)))) (gA (fE (mA iN) bg cF (aF _))))))),?_⟩
 ext
 unfold HU at q;refine⟨a,_,_,rfl,_,rfl,?_⟩;cases c1:wO 0 1000000000000 a
 . rw[c1]at q;exact aJ RF q
 refine bq rfl ⟨b,_,_,rfl,_,rfl,?_⟩;cases c2:wO 0 1000000000000 b
 . rw[c1,c2]at q;exact aJ RF q
 rw[c1,c2]at q;cases a with
 | none=>cases c1
 | some x=>
   cases b with
   | none=>cases c2
   | some y=>exact bq rfl ⟨x,rfl,y,rfl,q⟩
inductive E4 (K:Frag)(vs:List V)(H:Hp)(Q:VK)(E9:XK):Prop
 | mk (v W o ws H0:_) (_:vs=[v,.ref W]) (_:aS K H0 H (HS o) v) (_:tupQ K H W=some (List.map V.str ws)) (_:Pa ws o=true) (_:∀H',Ext K H H'->Q (.bl true) H')
theorem Bx (x:Str):∀ws:List Str,Cf (.str x) (ws.map V.str)=decide (x∈ws)
 | []=>rfl
 | y::ws=>by
   have ih:=Bx x ws;unfold Cf at ih ⊢;rw[List.map_cons,List.any_cons,ih,oy];simp only[Bool.or_eq_true,FC,List.mem_cons,Gws,Pt];exact⟨λh=>h.imp_left Eq.symm,λh=>h.imp_left Eq.symm⟩
theorem HW (ws:List Str):(ws.map V.str).all kU=true:=by rw[pd];exact eI.mpr λ_ _=>rfl
include B in
theorem DE (F:bQ K "is_half" "is_half" yO f fd)(aV:⋯ "is_number" 1 ["thing"] j7):(!0) 2 f fd ["thing","words"] (E4 K):=by
 exists 0,["thing","words"]
 obtain⟨v,W,o,ws,H0,rfl,hv,hW,ho,q⟩:=h;refine⟨_,(ak (gJ (tw (rR (dZ (Ck (dG (jm (yM B.isinstance bg (jH rfl B.tuple gW)))))) (rR (cM (cg (om ym) (jm (t6 B.len bg)) (jm (oR (aa ei (aa ei ah)))) SF)) (je (dZ (Ck (dG (jm (yM B.isinstance (iq bg) (jH rfl B.str CV)))))))))) (aE (aN rQ)) b8) (ak (gJ (cM (cg (om fq) (jm (t6 B.len bg)) (jm ei) (aF _))) (aE (aN (fE fq (iq bg) cJ (aF _)))) b8) (aE (aN (Az (eE (jm (fE C2 (iq bg) cF SF)) (gA (ec aV hr (aa (iq bg) ah))))))))),?_⟩
 ext
 rcases zR hv with ⟨rfl,rfl⟩ | ⟨x,a,rfl,rfl,ha⟩
 . cases ho
 refine⟨_,.tup ha,true,rfl,aJ RF ⟨a,rfl,_,aQ ha,λb nb=>⟨rfl,rfl,?_⟩⟩⟩;have xb:=bX (.tup [V.int 1,V.int 2]) nb;have Mi:=xb.tup hW;have Ir:=xb.tup ha;generalize upd H b (.tup [V.int 1,V.int 2])=G at xb Mi Ir ⊢;have qb:=q _ xb;clear q;cases x
 case gone=>exact aJ RF ⟨a,rfl,_,aQ Ir,_,rfl,_,.inl (.str _),true,rfl,aJ RF ⟨a,rfl,_,aQ Ir,bq rfl ⟨a,rfl,_,aQ Ir,_,rfl,rfl,qb⟩⟩⟩
 all_goals exact aJ (by show ¬ ((!Cf (V.int 2) [V.int 1,V.int 2])=true);decide) ⟨a,rfl,_,aQ Ir,_,rfl,_,.inl (.str _),true,rfl,aJ RF ⟨a,rfl,_,aQ Ir,aJ (by show ¬ ((2:Int)=1);decide) ⟨a,rfl,_,aQ Ir,_,rfl,_,aQ Mi,rfl,HW ws,bq ((Bx _ ws).trans ho) ⟨a,rfl,_,aQ Ir,_,rfl,some _,rfl,qb⟩⟩⟩⟩
inductive Lm (K:Frag)(vs:List V)(H:Hp)(Q:VK)(E9:XK):Prop
 | mk (a u1 u2 x y H0:_) (_:vs=[.ref a]) (_:tupQ K H a=some [u1,u2]) (_:aS K H0 H (HS x) u1) (_:aS K H0 H (HS y) u2) (_:Pa PI x=true) (_:Pa [Str.ofString "is"] y=true) (_:∀H',Ext K H H'->Q (.bl true) H')
include B in
theorem zS (F:bQ K "is_action" "is_action" sZ f fd)(nK:⋯ "is_half" 2 ["thing","words"] (E4 K)):(!0) 3 f fd ["thing"] (Lm K):=by
 exists 0,["thing","there","none"]
 obtain⟨a,u1,u2,x,y,H0,rfl,ha,h1,h2,hx,hy,q⟩:=h;refine⟨_,(ak (gJ (tw (rR (dZ (Ck (dG (jm (yM B.isinstance bg (jH rfl B.tuple gW)))))) (je (cM (cg (om sR) (jm (t6 B.len bg)) (jm ei) (aF _)))))) (aE (aN rQ)) b8) (ak (iS bg (lA (dD (n:=2) rfl (ay (gn 1 nk) (ay (gn 2 nk) dR))))) (aE (aN (eE (ec nK hr (aa cF (aa (oR (aa cJ (aa cJ ah))) ah))) (gA (ec nK hr (aa fC (aa (oR (aa cJ ah)) ah))))))))),?_⟩
 ext
 refine⟨_,.tup ha,true,rfl,aJ RF ⟨_,aQ ha,aJ RR ⟨_,ha,rfl,_,_,rfl,_,_,rfl,rfl,λp np=>?_⟩⟩⟩;have xp:=bX (.tup [V.str (Str.ofString "plus"),V.str (Str.ofString "is")]) np;refine⟨u1,p,x,PI,H0,rfl,h1.ext xp,aK,hx,λH1 x1=>⟨_,rfl,bq rfl λp2 np2=>?_⟩⟩;have xx:=(xp.trans x1).trans (bX (.tup [V.str (Str.ofString "is")]) np2);exact⟨u2,p2,y,[Str.ofString "is"],H0,rfl,h2.ext xx,aK,hy,λH2 x2=>q _ (xx.trans x2)⟩
inductive E5 (K:Frag)(vs:List V)(H:Hp)(Q:VK)(E9:XK):Prop
 | mk (v r H0:_) (_:vs=[v]) (_:aS K H0 H (RN.d r) v) (_:vF r=true) (_:∀H',Ext K H H'->Q (.bl true) H')
theorem iX:eg ["thing","number","low","high","action"] ["thing"] (aL sj):=Wb
include B in
theorem DF (F:bQ K "is_note" "is_note" sj f fd)(bD:⋯ "is_whole_from" 2 ["thing","low"] uA)(j9:⋯ "is_stretch" 3 ["low","high"] Ll)(mK:⋯ "is_action" 3 ["thing"] (Lm K)):(!0) 4 f fd ["thing"] (E5 K):=by
 refine F.Zx iX λeV A outer s H vs Q E hr hm h=>?_;obtain⟨v,r,H0,rfl,hv,no,q⟩:=h;obtain⟨a,b,u1,u2,rfl,ha,hb,h1,h2⟩:=Lk hv;refine⟨_,(ak (gJ (tw (rR (dZ (Ck (dG (jm (yM B.isinstance bg (jH rfl B.tuple gW)))))) (je (cM (cg (om sR) (jm (t6 B.len bg)) (jm ei) (aF _)))))) (aE (aN rQ)) b8) (ak (iS bg (lA (dD (n:=4) rfl (ay (gn 1 iX.nd) (ay (gn 2 iX.nd) (ay (gn 3 iX.nd) (ay (gn 4 iX.nd) dR))))))) (ak (gJ (tw (rR (dZ (dG (ec bD hr (aa cF (aa ei ah))))) (rR (dZ (dG (ec j9 hr (aa fC (aa gB ah))))) (je (dZ (dG (ec mK hr (aa nH ah)))))))) (aE (aN rQ)) b8) (aE (aN (orM (eor (jm (fE fq (cA (mA fW) gB fC) ei (aF _))) (gA (fE (Jy hr.units) (iq nH) (iR rfl B.Wf B.EW) (aF _)))))))))),?_⟩
 ext
 unfold vF at no;simp only[cm]at no;obtain⟨⟨⟨c1,c2⟩,c3,c4⟩,c5⟩:=no;refine⟨_,.tup ha,true,rfl,aJ RF ⟨_,aQ ha,aJ RR ⟨_,ha,rfl,_,_,rfl,_,_,rfl,_,_,rfl,_,_,rfl,rfl,r.n,1,rfl,true,congrArg V.bl c1,aJ RF ⟨r.lo,r.hi,rfl,true,congrArg V.bl c2,aJ RF ⟨b,u1,u2,r.a,r.b,H0,rfl,hb,h1,h2,c3,c4,λH1 x1=>⟨_,rfl,aJ RF ?_⟩⟩⟩⟩⟩⟩;have q1:=q _ x1;have h3:=h2.ext x1;have hb1:=x1.tup hb;have mf:=x1.tup (hm.tup B.kG);clear q hm h1 h2 hv ha hb;obtain⟨rn,rlo,rhi,ra,rb⟩:=r;dsimp only at c2 c4 c5 h3 ⊢;cases rlo with
 | none=>cases c2
 | some lo=>
   cases rhi with
   | none=>unfold HU at c2;simp[wO]at c2
   | some hi=>
     refine⟨hi,rfl,lo,rfl,ju (λc=>q1) (λc=>?_)⟩;rw[show Sf (some lo) (some hi)=false from Ha c]at c5;rcases zR h3 with ⟨rfl,rfl⟩ | ⟨x,a',rfl,rfl,ZA⟩
     . cases c4
     . refine⟨_,rfl,_,aQ hb1,_,rfl,x.hd,bP.EY ZA,bP.gone.hd,bP.EY (h:=.gone) mf,x.shaped,bP.shaped .gone,?_⟩;rw[bP.Bw];cases x <;> first | exact q1 | cases c5
inductive By (K:Frag)(vs:List V)(H:Hp)(Q:VK)(E9:XK):Prop
 | mk (D ns:_) (_:vs=[.ref D]) (_:aR K H D (List.map V.int ns)) (_:ns.length<=1000000) (_:∀H',Ext K H H'->Q (.bl (rising ns)) H')
include B in
theorem zT (F:bQ K "is_rising" "is_rising" tu f fd):(!0) 1 f fd ["numbers"] (By K):=by
 exists 0,["numbers"]
 obtain⟨D,ns,rfl,hD,hl,q⟩:=h;refine⟨_,(aE (aN (bW (HF (cB rfl)) rfl B.all gy (aa (qe (ck [ "one","other" ] [none,none]) rfl (O3 rfl B.zip (aa bg (aa (zv qw bg (A5 ei) Jx) ah))) (λ_ _ _ _=>(lA (iT K (n:=2) rfl (ay (gn 0 nk) (ay (gn 1 nk) dR))))) (λ_ _ _ _=>c6) (λ_ _ _ _=>(fE (mA iN) bg cF (aF _)))) ah)))),?_⟩
 ext
 refine⟨_,hD,λS nS=>⟨⟨_,(Ext.new nS).same.seq hD⟩,⟨_,aR.of af⟩,λD1 n1=>?_⟩⟩;have eS:rN (ns.map V.int) (some 1) none=(ns.drop 1).map V.int:=by rw[show rN (ns.map V.int) (some 1) none=(ns.map V.int).drop 1 from rS _ 1,xl]
 rw[eS]at n1 ⊢;have xS:=bX (.lst ((ns.drop 1).map V.int)) (by exact nS);refine Np (n:=ns.length - 1) (xs:=ns.map V.int) (ys:=(ns.drop 1).map V.int) (λi acc σ' H'=>∃v0 v1:Option V,σ'=[v0,v1]/\acc=((List.zipWith (λa b:Int=>decide (a < b)) ns (ns.drop 1)).take i).map V.bl/\H' D1=some (.lst acc)/\Kp K D1 (upd (upd H S (.lst ((ns.drop 1).map V.int))) D1 (.lst [])) H') RR RR RR ⟨_,_,rfl,rfl,af,Kp.refl⟩ ?_ ?_ ?_
 . rintro i acc σ' H' _ ⟨_,_,rfl,rfl,yS,k⟩;exact⟨(k.ext n1).same.seq (xS.same.seq hD),aR.of ((k.ext n1).at af)⟩
 . rintro i x y acc σ' H' T hx hy ⟨_,_,rfl,rfl,yS,k⟩ nT;rw[bb]at hx hy;obtain⟨a,ea,rfl⟩:=bj.mp hx;obtain⟨b,eb,rfl⟩:=bj.mp hy
   ext
   have xT:=bX (.tup [V.int a,V.int b]) nT;have hi:i < ns.length:=(bc.mp ea).1;refine⟨xT.at yS,by rw[ab,fb];have:=NA;omega,?_,k.trans (xT.kp.trans (Kp.upd (xT.at yS)))⟩;rw[List.take_add_one,bo,List.getElem?_zipWith,ea,eb];rfl
 . rintro acc σ' H' ⟨_,_,rfl,rfl,yS,k⟩;refine⟨_,aR.of yS,?_⟩;have:=q _ ((xS.trans (k.ext n1)));rw[<- vE]at this;rw[tq RR];exact this
def Sh (K:Frag):Sp:=λvs H Q _=>∃v,vs=[v]/\((v=.bO/\Q (.bl false) H)∨∃D ns,v=.ref D/\H D=some (.lst (List.map V.int ns))/\ns.length<=1000000/\∀H',Ext K H H'->Q (.bl true) H')
include B in
theorem w5 (F:bQ K "are_wholes" "are_wholes" qI f fd)(aV:⋯ "is_number" 1 ["thing"] j7):(!0) 2 f fd ["thing"] (Sh K):=by
 exists 0,["thing"]
 obtain⟨v,rfl,h⟩:=h;refine⟨_,(aE (aN (Az (eE (jm (yM B.isinstance bg (jH rfl B.list cE))) (gA (bW (HF (cB rfl)) rfl B.all gy (aa (qe (ck [ "part" ] [none]) rfl (j5 (bU cG)) (λ_ _ _ _=>(gn 0 nk)) (λ_ _ _ _=>c6) (λ_ _ _ _=>(ec aV hr (aa bg ah)))) ah))))))),?_⟩
 ext
 rcases h with ⟨rfl,q⟩ | ⟨D,ns,rfl,hD,hl,q⟩
 . exact⟨_,.inl .bO,false,rfl,aJ RF q⟩
 refine⟨_,.inl (.lst hD),true,rfl,bq rfl ⟨D,rfl,⟨_,aR.of hD⟩,λD1 n1=>gf (f:=V.int) (g:=λ_=>V.bl true) (aR.of hD) n1 QR (λi hi H' Q' xx qq=>?_) (λH1 h1 x1=>?_)⟩⟩
 . ext
   exact⟨some i,rfl,qq _ Ext.refl⟩
 refine⟨ns.map λ_=>true,aR.of (by rw[h1,dn];rfl),?_⟩;rw[show(ns.map λ_=>true).all id=true from by rw[eI];intro b hb;obtain⟨_,_,rfl⟩:=gs.mp hb;rfl];exact q _ x1
inductive Ln (K:Frag)(vs:List V)(H:Hp)(Q:VK)(E9:XK):Prop
 | mk (v p H0:_) (_:vs=[v]) (_:aS K H0 H (iH p) v) (_:0<=p.1) (_:Q (.bl true) H)
include B in
theorem w9 (F:bQ K "is_version" "is_version" qJ f fd)(aV:⋯ "is_number" 1 ["thing"] j7)(bD:⋯ "is_whole_from" 2 ["thing","low"] uA):(!0) 3 f fd ["thing"] (Ln K):=by
 exists 0,["thing","number","value"]
 obtain⟨v,p,H0,rfl,hv,hp,q⟩:=h;obtain⟨a,rfl,ha⟩:=nJ hv;refine⟨_,(ak (gJ (tw (rR (dZ (Ck (dG (jm (yM B.isinstance bg (jH rfl B.tuple gW)))))) (je (cM (cg (om sR) (jm (t6 B.len bg)) (jm ei) (aF _)))))) (aE (aN rQ)) b8) (ak (iS bg (lA (dD (n:=2) rfl (ay (gn 1 nk) (ay (gn 2 nk) dR))))) (aE (aN (eE (ec bD hr (aa cF (aa ei ah))) (gA (orM (eor (jm (fE iO fC iQ (aF _))) (gA (ec aV hr (aa fC ah))))))))))),?_⟩
 ext
 refine⟨_,.tup ha,true,rfl,aJ RF ⟨_,aQ ha,aJ RR ⟨_,ha,rfl,_,_,rfl,_,_,rfl,rfl,some p.1,0,rfl,true,congrArg V.bl (Dx hp),bq rfl ?_⟩⟩⟩;obtain⟨n,o⟩:=p;cases o with
 | none=>exact bq rfl q
 | some i=>exact aJ (by simp[on]) ⟨some i,rfl,q⟩
theorem Lo {K:Frag}{c:Addr}{L:List (V×α)}{k:α->Int}{u:α->V}(hk:aR K H c (L.map (·.1)))(hL:∀q∈L,∃a,q.1=.ref a/\tupQ K H a=some [.int (k q.2),u q.2])(nD:new K H D)(hz:L.length<=16000000)
   (fin:∀H',H' D=some (.lst ((L.map λq=>k q.2).map V.int))->Ext K H H'->Q H'):b7 (sQ K c) (qE K 2 (iy (cQ 0) (iy (cQ 1) wN))) pK (vM 0) D Q [v0,v1] (upd H D (.lst [])):=by
 refine iF (xs:=L.map (·.1)) (λi acc σ' H'=>∃(v0 v1:Option V),σ'=[v0,v1]/\H' D=some (.lst acc)/\acc=((L.take i).map λq=>k q.2).map V.int/\Kp K D (upd H D (.lst [])) H') ⟨_,_,rfl,af,rfl,Kp.refl⟩ ?_ ?_ ?_
 . rintro i acc σ' H' _ ⟨v0,v1,rfl,hD,rfl,k⟩;exact(k.ext nD).same.seq hk
 . rintro i x acc σ' H' hx ⟨v0,v1,rfl,hD,rfl,kk⟩;rw[bb]at hx;obtain⟨q,ek,rfl⟩:=bj.mp hx;obtain⟨a,ea,ha⟩:=hL q (ba ek);rw[ea];have ZA:=(kk.ext nD).tup ha;have hlen:(((L.take i).map λq=>k q.2).map V.int).length<=16000000:=by rw[ab,ab,fb];omega
   simp_arith [ZA];refine⟨hD,dt hlen RF,?_,kk.trans (Kp.upd hD)⟩;rw[List.take_add_one,ek,ip,bo,bo];rfl
 . rintro acc σ' H' ⟨v0,v1,rfl,hD,rfl,k⟩;rw[ab,dv]at hD;exact fin H' hD (k.ext nD)
inductive E6 (K:Frag)(vs:List V)(H:Hp)(Q:VK)(E9:XK):Prop
 | mk (D us ps H0:_) (_:vs=[.ref D]) (_:H D=some (.lst us)) (_:ao K H0 H (List.map iH ps) us) (_:ps.length<=1000000) (_:zQ ps=true) (_:∀H',Ext K H H'->Q (.bl true) H')
include B in
theorem t8 (F:bQ K "are_versions" "are_versions" mE f fd)(kg:⋯ "is_version" 3 ["thing"] (Ln K))(bV:⋯ "is_rising" 1 ["numbers"] (By K)):(!0) 4 f fd ["thing"] (E6 K):=by
 exists 0,["thing"]
 obtain⟨D,us,ps,H0,rfl,hD,hu,hl,ho,q⟩:=h;obtain⟨L,rfl,rfl,hL⟩:=hu.zip;refine⟨_,(ak (gJ (tw (rR (dZ (Ck (dG (jm (yM B.isinstance bg (jH rfl B.list cE)))))) (rR (cM (cg (om fq) (jm (t6 B.len bg)) (jm ei) (aF _))) (je (dZ (Ck (dG (jm (bW (HF (cB rfl)) rfl B.all gy (aa (qe (ck [ "part" ] [none]) rfl (j5 (bU cG)) (λ_ _ _ _=>(gn 0 nk)) (λ_ _ _ _=>c6) (λ_ _ _ _=>(ec kg hr (aa bg ah)))) ah)))))))))) (aE (aN rQ)) b8) (aE (aN (ec bV hr (aa (qe (ck [ "number","value" ] [none,none]) rfl (j5 (bU cG)) (λ_ _ _ _=>(lA (iT K (n:=2) rfl (ay (gn 0 nk) (ay (gn 1 nk) dR))))) (λ_ _ _ _=>c6) (λ_ _ _ _=>bg)) ah))))),?_⟩;simp_arith [aI hD];have hl:L.length<=1000000:=by simpa using hl
 unfold zQ at ho;simp only[cm,dn,pd]at ho;obtain⟨⟨c1,c2⟩,c3⟩:=ho;refine⟨_,.inl (.lst hD),true,rfl,aJ RF (aJ (λc=>?_) ⟨⟨_,aR.of hD⟩,λD1 n1=>gf (L:=L) (f:=λq=>q.1) (g:=λ_=>V.bl true) (aR.of hD) n1 QR (λq hq H' Q' xx qq=>?_) (λH1 h1 x1=>?_)⟩)⟩
 . rw[List.eq_nil_of_length_eq_zero (l:=L) (by simp at c;simpa using c)]at c1;cases c1
 . ext
   exact⟨q.1,q.2,H0,rfl,(hL q hq).ext xx,L9 (eI.mp c2 q hq),qq _ Ext.refl⟩
 rw[all_map]at h1;refine⟨_,aR.of h1,?_⟩;rw[all_true];exact aJ RF ⟨⟨_,aR.of (x1.at hD)⟩,λD2 n2=>Lo (L:=L) (k:=λp=>p.1) (u:=λp=>on p.2) (aR.of (x1.at hD)) (λq hq=>nJ ((hL q hq).ext x1)) n2 QR (λH2 h2 x2=>⟨D2,L.map λq=>q.2.1,rfl,aR.of h2,by simpa using hl,λH3 x3=>by
   have:=q _ (x1.trans (x2.trans x3));rw[<- c3]at this;exact this⟩)⟩
inductive Lp (K:Frag)(vs:List V)(H:Hp)(Q:VK)(E9:XK):Prop
 | mk (v r H0:_) (_:vs=[v]) (_:aS K H0 H (fk r) v) (_:r.2.length<=1000000) (_:E3 r=true) (_:∀H',Ext K H H'->Q (.bl true) H')
include B in
theorem HX (F:bQ K "is_row" "is_row" Bt f fd)(jO:⋯ "is_key" 3 ["thing"] DC)(iY:⋯ "are_versions" 4 ["thing"] (E6 K)):(!0) 5 f fd ["thing"] (Lp K):=by
 exists 0,["thing"]
 obtain⟨v,r,H0,rfl,hv,hl,ho,q⟩:=h;obtain⟨a,D,us,rfl,ha,hD,hu⟩:=j8 hv;refine⟨_,(aE (aN (Az (eE (jm (yM B.isinstance bg (jH rfl B.tuple gW))) (Az (eE (jm (fE fq (t6 B.len bg) ei (aF _))) (eE (ec jO hr (aa (iq bg) ah)) (gA (ec iY hr (aa (iq bg) ah)))))))))),?_⟩
 ext
 unfold E3 at ho;rw[cm]at ho;exact⟨_,.tup ha,true,rfl,bq rfl ⟨_,aQ ha,bq rfl ⟨_,aQ ha,_,rfl,some r.1,rfl,true,congrArg V.bl ho.1,bq rfl ⟨_,aQ ha,_,rfl,D,us,r.2,H0,rfl,hD,hu,hl,ho.2,q⟩⟩⟩⟩
inductive E8 (K:Frag)(vs:List V)(H:Hp)(Q:VK)(E9:XK):Prop
 | mk (D us rs H0:_) (_:vs=[.ref D]) (_:H D=some (.lst us)) (_:ao K H0 H (List.map fk rs) us) (_:rs.length<=1000000) (_:(∀r∈rs,r.2.length<=1000000)) (_:vG rs=true) (_:∀H',Ext K H H'->Q (.bl true) H')
include B in
theorem BB (F:bQ K "are_rows" "are_rows" vm f fd)(vH:⋯ "is_row" 5 ["thing"] (Lp K))(bV:⋯ "is_rising" 1 ["numbers"] (By K)):(!0) 6 f fd ["thing"] (E8 K):=by
 exists 0,["thing"]
 obtain⟨D,us,rs,H0,rfl,hD,hu,hl,o9,ho,q⟩:=h;obtain⟨L,rfl,rfl,hL⟩:=hu.zip;refine⟨_,(ak (gJ (tw (rR (dZ (Ck (dG (jm (yM B.isinstance bg (jH rfl B.list cE)))))) (je (dZ (Ck (dG (jm (bW (HF (cB rfl)) rfl B.all gy (aa (qe (ck [ "part" ] [none]) rfl (j5 (bU cG)) (λ_ _ _ _=>(gn 0 nk)) (λ_ _ _ _=>c6) (λ_ _ _ _=>(ec vH hr (aa bg ah)))) ah))))))))) (aE (aN rQ)) b8) (aE (aN (ec bV hr (aa (qe (ck [ "key","versions" ] [none,none]) rfl (j5 (bU cG)) (λ_ _ _ _=>(lA (iT K (n:=2) rfl (ay (gn 0 nk) (ay (gn 1 nk) dR))))) (λ_ _ _ _=>c6) (λ_ _ _ _=>bg)) ah))))),?_⟩
 ext
 have hl:L.length<=1000000:=by simpa using hl
 unfold vG at ho;simp only[cm,dn,pd]at ho;refine⟨_,.inl (.lst hD),true,rfl,aJ RF ⟨⟨_,aR.of hD⟩,λD1 n1=>gf (L:=L) (f:=λq=>q.1) (g:=λ_=>V.bl true) (aR.of hD) n1 QR (λq hq H' Q' xx qq=>?_) (λH1 h1 x1=>?_)⟩⟩
 . ext
   exact⟨q.1,q.2,H0,rfl,(hL q hq).ext xx,o9 q.2 (eP hq),eI.mp ho.1 q hq,λH2 x2=>qq _ x2⟩
 rw[all_map]at h1;refine⟨_,aR.of h1,?_⟩;rw[all_true];refine aJ RF ⟨⟨_,aR.of (x1.at hD)⟩,λD2 n2=>?_⟩;obtain⟨u,Ci⟩:∃u:V×(Int×List jq)->V,∀q∈L,∃a,q.1=.ref a/\tupQ K H1 a=some [.int q.2.1,u q]:=by
   have P:∀q:V×(Int×List jq),∃x:V,q∈L->∃a,q.1=.ref a/\tupQ K H1 a=some [.int q.2.1,x]:=λq=>by
     by_cases hq:q∈L
     . obtain⟨a,D',vs,e1,e2,_⟩:=j8 ((hL q hq).ext x1);exact⟨.ref D',λ_=>⟨a,e1,e2⟩⟩
     . exact⟨.bO,λz=>absurd z hq⟩
   exact⟨λq=>(P q).choose,λq=>(P q).choose_spec⟩
 have eL:L.map (·.1)=(L.map λq=>(q.1,q)).map (·.1):=by rw[dn];rfl
 have mL:=x1.at hD;rw[eL]at mL;refine Lo (L:=L.map λq=>(q.1,q)) (k:=λq=>q.2.1) (u:=u) (aR.of mL) (λq hq=>?_) n2 Sr (λH2 h2 x2=>?_)
 . obtain⟨q',hq',rfl⟩:=gs.mp hq;exact Ci q' hq'
 refine⟨D2,L.map λq=>q.2.1,rfl,aR.of (by rw[h2,dn (l:=L)];rfl),by simpa using hl,λH3 x3=>?_⟩;have:=q _ (x1.trans (x2.trans x3));rw[<- ho.2]at this;exact this
inductive BC (K:Frag)(vs:List V)(H:Hp)(Q:VK)(E9:XK):Prop
 | mk (D us rs H0:_) (_:vs=[.ref D]) (_:H D=some (.lst us)) (_:ao K H0 H (List.map RN.d rs) us) (_:rs.length<=1000000) (_:rs.all vF=true) (_:∀H',Ext K H H'->Q (.bl true) H')
include B in
theorem zU (F:bQ K "are_notes" "are_notes" tD f fd)(sr:⋯ "is_note" 4 ["thing"] (E5 K)):(!0) 5 f fd ["thing"] (BC K):=by
 exists 0,["thing"]
 obtain⟨D,us,rs,H0,rfl,hD,hu,hl,ho,q⟩:=h;obtain⟨L,rfl,rfl,hL⟩:=hu.zip;refine⟨_,(aE (aN (Az (eE (jm (yM B.isinstance bg (jH rfl B.list cE))) (gA (bW (HF (cB rfl)) rfl B.all gy (aa (qe (ck [ "part" ] [none]) rfl (j5 (bU cG)) (λ_ _ _ _=>(gn 0 nk)) (λ_ _ _ _=>c6) (λ_ _ _ _=>(ec sr hr (aa bg ah)))) ah))))))),?_⟩
 ext
 have hl:L.length<=1000000:=by simpa using hl
 rw[pd]at ho;refine⟨_,.inl (.lst hD),true,rfl,bq rfl ⟨⟨_,aR.of hD⟩,λD1 n1=>gf (L:=L) (f:=λq=>q.1) (g:=λ_=>V.bl true) (aR.of hD) n1 QR (λq hq H' Q' xx qq=>?_) (λH1 h1 x1=>?_)⟩⟩
 . ext
   exact⟨q.1,q.2,H0,rfl,(hL q hq).ext xx,eI.mp ho q hq,λH2 x2=>qq _ x2⟩
 rw[all_map]at h1;refine⟨_,aR.of h1,?_⟩;rw[all_true];exact q _ x1
inductive DG (K:Frag)(vs:List V)(H:Hp)(Q:VK)(E9:XK):Prop
 | mk (a u us x m:_) (_:vs=[.ref a,.str x,.int m]) (_:tupQ K H a=some (.str u::us)) (_:Q (.bl (decide ((us.length:Int) + 1=m)&&decide (u=x))) H)
include B in
theorem BE (F:bQ K "has_word" "has_word" vn f fd):(!0) 1 f fd ["thing","word","many"] (DG K):=by
 exists 0,["thing","word","many"]
 obtain⟨a,u,us,x,m,rfl,ha,q⟩:=h;refine⟨_,(ak (gJ (tw (rR (dZ (Ck (dG (jm (yM B.isinstance bg (jH rfl B.tuple gW)))))) (je (cM (cg (om sR) (jm (t6 B.len bg)) HN (aF _)))))) (aE (aN rQ)) b8) (aE (aN (Az (eE (jm (yM B.isinstance (iq bg) (jH rfl B.str CV))) (gA (fE fq (iq bg) cF (aF _)))))))),?_⟩;simp_arith [aQ ha,ha];refine⟨_,.tup ha,true,rfl,aJ RF ?_⟩
 by_cases c:(us.length:Int) + 1=m
 . exact aJ Sr ⟨_,.inl (.str _),true,rfl,bq rfl (by rw[Dx c]at q;exact q)⟩
 . exact bq Sr (by rw[Ha c]at q;exact q)
def Fb (K:Frag):Sp:=λvs H Q _=>(∃a us,vs=[.ref a]/\tupQ K H a=some (.str (Str.ofString "inner")::us)/\Q (.bl false) H)∨∃a o v rs H0,vs=[.ref a]/\tupQ K H a=some [.str (Str.ofString "leaf"),on o,v]/\LstAt K H0 H fk rs v/\Sg rs/\(∀l,rs=some l->∀r∈l,r.2.length<=1000000)/\(o.isSome&&Wh rs)=true/\∀H',Ext K H H'->Q (.bl true) H'
theorem t9:eg ["thing"] ["thing"] (aL iW):=Wb
include B in
theorem ud (F:bQ K "is_leaf_told" "is_leaf_told" iW f fd)(gC:⋯ "has_word" 1 ["thing","word","many"] (DG K))(aV:⋯ "is_number" 1 ["thing"] j7)(pO:⋯ "are_rows" 6 ["thing"] (E8 K)):(!0) 7 f fd ["thing"] (Fb K):=by
 refine F.okS t9 (λvs H Q E h=>?_) (λeV A outer s H vs Q E hr h=>?_)
 . rcases h with ⟨a,us,rfl,_⟩ | ⟨a,o,v,rs,H0,rfl,_⟩ <;> rfl
 obtain⟨a,rfl⟩:∃a,vs=[.ref a]:=by rcases h with ⟨a,us,rfl,_⟩ | ⟨a,o,v,rs,H0,rfl,_⟩ <;> exact⟨_,rfl⟩
 refine⟨_,(aE (aN (eE (ec gC hr (aa bg (aa cJ (aa ei ah)))) (eE (ec aV hr (aa (iq bg) ah)) (gA (ec pO hr (aa (iq bg) ah))))))),?_⟩
 ext
 rcases h with ⟨a,us,e,ha,q⟩ | ⟨a,o,v,rs,H0,e,ha,hv,lr,lv,ho,q⟩ <;> cases e
 . exact⟨a,_,_,_,_,rfl,ha,_,rfl,aJ (by simp;exactλ_=>s5) q⟩
 rw[cm]at ho;cases rs with
 | none=>cases ho.2
 | some l=>
   obtain⟨D,us,rfl,n,hD,hu⟩:=hv;cases o with
   | none=>cases ho.1
   | some n=>exact⟨a,_,_,_,_,rfl,ha,_,rfl,bq RR ⟨_,aQ ha,_,rfl,some n,rfl,_,rfl,bq rfl ⟨_,aQ ha,_,rfl,D,us,l,H0,rfl,hD,hu,lr l rfl,lv l rfl,ho.2,q⟩⟩⟩
inductive Lq (K:Frag)(vs:List V)(H:Hp)(Q:VK)(E9:XK):Prop
 | mk (a o v C cs y pv rs H0:_) (_:vs=[.ref a]) (_:tupQ K H a=some [.str (Str.ofString "inner"),on o,v,.ref C,y]) (_:H C=some (.lst (List.map V.int cs))) (_:cs.length<=1000000) (_:LstAt K H0 H PyData.int pv v) (_:Sg pv) (_:LstAt K H0 H RN.d rs y) (_:Sg rs) (_:(o.isSome&&pv.isSome&&DB rs)=true) (_:∀H',Ext K H H'->Q (.bl true) H')
include B in
theorem su (F:bQ K "is_inner_told" "is_inner_told" kX f fd)(gC:⋯ "has_word" 1 ["thing","word","many"] (DG K))(aV:⋯ "is_number" 1 ["thing"] j7)(dM:⋯ "are_wholes" 2 ["thing"] (Sh K))(mO:⋯ "are_notes" 5 ["thing"] (BC K)):(!0) 6 f fd ["thing"] (Lq K):=by
 exists 0,["thing","word","number","pivots","children","tray"]
 obtain⟨a,o,v,C,cs,y,pv,rs,H0,rfl,ha,hC,lC,hv,lv,hy,ly,ho,q⟩:=h;refine⟨_,(ak (gJ (dZ (dG (ec gC hr (aa bg (aa cJ (aa ei ah)))))) (aE (aN rQ)) b8) (ak (iS bg (lA (dD (n:=5) rfl (ay (gn 1 nk) (ay (gn 2 nk) (ay (gn 3 nk) (ay (gn 4 nk) (ay (gn 5 nk) dR)))))))) (aE (aN (eE (ec aV hr (aa fC ah)) (eE (ec dM hr (aa gB ah)) (eE (ec dM hr (aa nH ah)) (gA (ec mO hr (aa tZ ah)))))))))),?_⟩;simp_arith [aQ ha,ha];simp only[cm]at ho;obtain⟨⟨o1,o2⟩,o3⟩:=ho;cases o with
 | none=>cases o1
 | some n=>
   cases pv with
   | none=>cases o2
   | some pv=>
     cases rs with
     | none=>cases o3
     | some l=>
       obtain⟨D,us,rfl,_,hD,hu⟩:=hv;obtain⟨Y,ys,rfl,_,hY,hw⟩:=hy;rw[hu.ints]at hD;exact⟨a,_,_,_,_,rfl,ha,_,rfl,aJ RR ⟨_,ha,rfl,_,_,rfl,_,_,rfl,_,_,rfl,_,_,rfl,_,_,rfl,rfl,some n,rfl,_,rfl,bq rfl ⟨_,rfl,.inr ⟨D,pv,rfl,hD,lv pv rfl,λH1 x1=>⟨_,rfl,bq rfl ⟨_,rfl,.inr ⟨C,cs,rfl,x1.at hC,lC,λH2 x2=>⟨_,rfl,bq rfl ⟨Y,ys,l,H0,rfl,(x1.trans x2).at hY,hw.ext (x1.trans x2),ly l rfl,o3,λH3 x3=>q _ ((x1.trans x2).trans x3)⟩⟩⟩⟩⟩⟩⟩⟩⟩
def Lr (t:Str):Bool:=decide (t="fullest")||decide (t="eldest")
def Ls:Sp:=λvs H Q _=>∃t:Str,vs=[.str t]/\Q (.bl (Lr t)) H
theorem N1 (t:Str):Cf (.str t) [.str "fullest",.str "eldest"]=Lr t:=by
 unfold Cf Lr;simp only[List.any_cons,List.any_nil,Bool.or_false,Gws];have e:∀a b:Str,(a==b)=decide (b=a):=λa b=>by
   rw[oy,Pt,FC];exact⟨Eq.symm,Eq.symm⟩
 rw[e,e]
theorem DH:eg ["thing"] ["thing"] (aL sf):=Wb
include B in
theorem DJ (F:bQ K "is_plan" "is_plan" sf f fd):(!0) 1 f fd ["thing"] Ls:=by
 refine F.Zx DH λeV A outer s H vs Q E hr hm h=>?_;obtain⟨t,rfl,q⟩:=h;refine⟨_,(aE (aN (Az (eE (jm (yM B.isinstance bg (jH rfl B.str CV))) (gA (fE C2 bg (iR rfl B.We B.Li) SF)))))),?_⟩
 ext
 refine⟨_,.inl (.str _),true,rfl,bq rfl ⟨_,aQ (hm.tup B.kP),rfl,rfl,?_⟩⟩;rw[N1];exact q
def ki (os:List (Option Int))(pl:Str):Bool:=match os with
 | [a,b,c]=>wO 1 64 a&&wO 3 16 b&&(wO 1 64 c&&Lr pl)
 | _=>false
inductive DK (K:Frag)(vs:List V)(H:Hp)(Q:VK)(E9:XK):Prop
 | mk (r os pl:_) (_:vs=[.ref r]) (_:tupQ K H r=some (List.map on os++[.str pl])) (_:Q (.bl (ki os pl)) H)
include B in
theorem DM (F:bQ K "is_rule" "is_rule" yN f fd)(bM:⋯ "is_whole" 2 ["thing","low","high"] mJ)(sy:⋯ "is_plan" 1 ["thing"] Ls):(!0) 3 f fd ["thing"] (DK K):=by
 exists 0,["thing","tray","fan","rows","plan"]
 obtain⟨r,os,pl,rfl,ht,q⟩:=h;refine⟨_,(ak (gJ (tw (rR (dZ (Ck (dG (jm (yM B.isinstance bg (jH rfl B.tuple gW)))))) (je (cM (cg (om sR) (jm (t6 B.len bg)) (jm ei) (aF _)))))) (aE (aN rQ)) b8) (ak (iS bg (lA (dD (n:=4) rfl (ay (gn 1 nk) (ay (gn 2 nk) (ay (gn 3 nk) (ay (gn 4 nk) dR))))))) (ak (gJ (tw (rR (dZ (dG (ec bM hr (aa cF (aa ei (aa (iR rfl B.HP B.zL) ah)))))) (je (dZ (dG (ec bM hr (aa fC (aa (iR rfl B.HQ B.zN) (aa (iR rfl B.Lh B.Bu) ah))))))))) (aE (aN rQ)) b8) (aE (aN (eE (ec bM hr (aa gB (aa ei (aa (iR rfl B.HR B.zO) ah)))) (gA (ec sy hr (aa nH ah))))))))),?_⟩;simp_arith [aQ ht];refine⟨_,.tup ht,true,rfl,aJ RF ?_⟩
 by_cases hl:os.length=3
 case neg=>
   refine bq Sr ?_;have:ki os pl=false:=by
     unfold ki;split
     . exact absurd rfl hl
     . rfl
   rw[this]at q;exact q
 obtain⟨a,b,c,rfl⟩:∃a b c,os=[a,b,c]:=by
   rcases os with _ | ⟨a,_ | ⟨b,_ | ⟨c,_ | ⟨d,os⟩⟩⟩⟩ <;> simp only[List.length_cons,List.length_nil]at hl <;> first | omega | exact⟨_,_,_,rfl⟩
 refine aJ RR ?_;refine⟨_,ht,rfl,_,_,rfl,_,_,rfl,_,_,rfl,_,_,rfl,rfl,a,_,_,rfl,_,rfl,?_⟩;cases c1:wO 1 64 a
 . exact bq RF (by simpa[ki,c1] using q)
 refine aJ RF ⟨b,_,_,rfl,_,rfl,?_⟩;cases c2:wO 3 16 b
 . exact bq RF (by simpa[ki,c1,c2] using q)
 refine aJ RF ⟨c,_,_,rfl,_,rfl,?_⟩;cases c3:wO 1 64 c
 . exact aJ RF (by simpa[ki,c1,c2,c3] using q)
 . exact bq rfl ⟨pl,rfl,by simpa[ki,c1,c2,c3] using q⟩
def Pb (K:Frag):Sp:=λvs H Q _=>∃v lo,vs=[v,.int lo]/\((v=.bO/\Q (.bl false) H)∨∃D ns,v=.ref D/\H D=some (.lst (List.map V.int ns))/\ns.length<=1000000/\∀H',Ext K H H'->Q (.bl (ns.all (λn=>decide (lo<=n))&&rising ns)) H')
include B in
theorem pP (F:bQ K "are_rising_from" "are_rising_from" jj f fd)(dM:⋯ "are_wholes" 2 ["thing"] (Sh K))(bV:⋯ "is_rising" 1 ["numbers"] (By K)):(!0) 3 f fd ["thing","low"] (Pb K):=by
 exists 0,["thing","low"]
 obtain⟨v,lo,rfl,h⟩:=h;refine⟨_,(aE (aN (eE (ec dM hr (aa bg ah)) (Az (eE (jm (bW (HF (cB rfl)) rfl B.all gy (aa (qe (ck [ "number","low" ] [none,some 1]) rfl (j5 (bU cG)) (λ_ _ _ _=>(gn 0 nk)) (λ_ _ _ _=>c6) (λ_ _ _ _=>(fE (mA fX) cF bg (aF _)))) ah))) (gA (ec bV hr (aa bg ah)))))))),?_⟩
 ext
 rcases h with ⟨rfl,q⟩ | ⟨D,ns,rfl,hD,hl,q⟩
 . exact⟨_,rfl,.inl ⟨rfl,false,rfl,aJ RF q⟩⟩
 refine⟨_,rfl,.inr ⟨D,ns,rfl,hD,hl,λH1 x1=>⟨true,rfl,bq rfl ⟨D,rfl,⟨_,aR.of (x1.at hD)⟩,λD1 n1=>gf (f:=V.int) (g:=λi=>V.bl (decide (lo<=i))) (aR.of (x1.at hD)) n1 QR (λi hi H' Q' xx qq=>?_) (λH2 h2 x2=>?_)⟩⟩⟩⟩
 . ext
   exact qq _ Ext.refl
 refine⟨ns.map λn=>decide (lo<=n),aR.of (by rw[h2,dn];rfl),?_⟩;have e:(ns.map λn=>decide (lo<=n)).all id=ns.all λn=>decide (lo<=n):=by rw[pd];rfl
 rw[e];cases c:ns.all λn=>decide (lo<=n)
 . have:=q _ (x1.trans x2);rw[c]at this;exact aJ RF this
 . refine bq rfl ⟨D,ns,rfl,aR.of ((x1.trans x2).at hD),hl,λH3 x3=>?_⟩;have:=q _ (x1.trans (x2.trans x3));rw[c]at this;exact this
def L3 (x y z:Int):HO:=.lst [.int x,.int y,.int z]
def Wl (H:Hp)(p:Addr):Prop:=∃x y z,H p=some (L3 x y z)
theorem Wl.ext {K:Frag}(h:Wl H p)(x:Ext K H H'):Wl H' p:=by
 obtain⟨u,v,z,h⟩:=h;exact⟨u,v,z,x.at h⟩
theorem Wl.ne {K:Frag}{b:Addr}(h:Wl H p)(n:new K H b):b≠p:=by
 obtain⟨u,v,z,h⟩:=h;exact(aH h n.1).symm
theorem Wl.upd {b:Addr}(h:Wl H p)(n:p≠b):Wl (upd H b o) p:=by
 obtain⟨u,v,z,h⟩:=h;exact⟨u,v,z,by rw[au n];exact h⟩
theorem Wl.lst (h:Wl H p):∃xs,H p=some (.lst xs):=by
 obtain⟨u,v,z,h⟩:=h;exact⟨_,h⟩
theorem Wi (ns:List Int)(h0:0<=i)(h1:i < ns.length):∃n,n∈ns/\kZ (ns.map V.int) i=some (.int n):=by
 obtain⟨v,ev,mv⟩:=Js (xs:=ns.map V.int) h0 (by rw[ab];exact h1);obtain⟨n,hn,rfl⟩:=gs.1 mv;exact⟨n,hn,ev⟩
inductive Lu (K:Frag)(vs:List V)(H:Hp)(Q:VK)(E9:XK):Prop
 | mk (a:Addr) (ns:List Int) (k:Int) (_:vs=[.ref a,.int k]) (_:aR K H a (ns.map V.int)) (_:0<=k) (_:∀n,Q (.int n) H)
include B in
theorem ue (F:bQ K "_law_cell_at" "_law_cell_at" mG f fd):(!0) 1 f fd ["_law_script","_law_k"] (Lu K):=by
 exists 0,["_law_script","_law_k"]
 obtain⟨a,ns,k,rfl,hs,h0,q⟩:=h;refine⟨_,(ak (gJ (cM (cg (om (mA iN)) lE (jm (bW ql rfl B.len CT (aa bg ah))) (aF _))) (aE (aN (tV Ew bg cF (λ_ _=>rfl)))) b8) (aE (aN ei))),?_⟩;simp_arith [UO];refine⟨_,.inl hs,?_⟩;refine ju (λc=>?_) (λc=>q 0);obtain⟨v,e,m⟩:=Js h0 c;obtain⟨n,_,rfl⟩:=gs.mp m;exact⟨_,hs,_,e,q n⟩
def Lv (K:Frag):Sp:=λvs H Q _=>∃c,vs=[.int c]/\∀(p:Addr) (x y z:Int),new K H p->Q (.ref p) (upd H p (L3 x y z))
include B in
theorem zV (F:bQ K "_law_well" "_law_well" tG f fd):(!0) 1 f fd ["_law_cell"] (Lv K):=by
 exists 0,["_law_cell"]
 obtain⟨c,rfl,q⟩:=h;refine⟨_,(aE (aN (jx (aa (cA (mC fK) bg (dI rO rfl B.int rP (aa (fE (mA OE) bg (ji 1000000000000000000) (aF _)) ah))) (aa (cA (mC pG) bg ei) (aa ei ah)))))),?_⟩
 ext
 refine⟨?_,λp hp=>q p _ _ _ hp⟩
 right
 split <;> decide
inductive ig (K:Frag)(vs:List V)(H:Hp)(Q:VK)(E9:XK):Prop
 | mk (p m:_) (_:vs=[.ref p,.int m]) (_:Wl H p) (_:0 < m) (_:m < 10 ^ 100) (_:∀(r:Int) (H':Hp),0<=r->r < m->Wl H' p->Kp K p H H'->Q (.int r) H')
include B in
theorem zX (F:bQ K "_law_draw" "_law_draw" tH f fd):(!0) 1 f fd ["_law_well_here","_law_many"] (ig K):=by
 exists 0,["_law_well_here","_law_many","_law_found","_law_number_here"]
 obtain⟨p,m,rfl,⟨x,y,z,hp⟩,h0,h1,q⟩:=h;unfold L3 at hp;refine⟨_,(ak (gJ (cM (cg (om (mA AN)) (jm (iq bg)) (jm ei) (aF _))) (ak (ss 2 nk (cA (mC pG) (iq bg) cF)) (ak (iS (cA (mC lR) (iq bg) cF) (U6 bg ei set_list)) (aE (aN fC)))) b8) (ak (iS (cA (mA bw) (iq bg) ei) (U6 bg ei set_list)) (ak (ss 3 nk (cA (mC pG) (cA (mC fK) (cA (mA bw) (cA (mA bw) (iq bg) (cA (mC fK) ei (iq bg))) ei) ei) ei)) (ak (ss 3 nk (cA (mC pG) (cA (mC fK) gB (cA (mA bw) (cA (mA bw) (cA (mC lR) gB ei) ei) (iq bg))) ei)) (aE (aN (cA (mC pG) (cA (mC pG) (cA (mC fK) gB (cA (mA bw) (cA (mC lR) gB ei) ei)) ei) cF))))))),?_⟩;simp_arith [hp,aI hp,nF];have g:∀(u v z:Int),Kp K p H (upd H p (L3 u v z)):=λu v z=>Kp.upd hp;refine ju (λc=>⟨h0,h0,by omega,?_⟩) (λc=>?_)
 . exact q _ _ (Bz _ QR) (wy _ h0) ⟨_,_,_,af⟩ (g _ _ _)
 . refine⟨?_,?_,h0,q _ _ (Bz _ QR) (wy _ h0) ⟨_,_,_,af⟩ (g _ _ _)⟩
   all_goals omega
inductive Fc (K:Frag)(vs:List V)(H:Hp)(Q:VK)(E9:XK):Prop
 | mk (p:_) (_:vs=[.ref p]) (_:Wl H p) (_:∀(o:Option Int) (H':Hp),(∀i,o=some i->i.natAbs < 10 ^ 60)->Wl H' p->Kp K p H H'->Q (on o) H')
include B in
theorem xg (F:bQ K "_law_value" "_law_value" qO f fd)(ai:⋯ "_law_draw" 1 ["_law_well_here","_law_many"] (ig K)):(!0) 2 f fd ["_law_well_here"] (Fc K):=by
 exists 0,["_law_well_here","_law_way"]
 obtain⟨p,rfl,hp,q⟩:=h;refine⟨_,(ak (ss 1 nk (ec ai hr (aa bg (aa ei ah)))) (ak (gJ (cM (cg (om fq) lE (jm ei) (aF _))) (aE (aN iQ)) b8) (ak (gJ (cM (cg (om (mA iN)) lE (jm ei) (aF _))) (aE (aN (cA (mA fW) (ec ai hr (aa bg (aa ei ah))) ei))) b8) (aE (aN (cA (mA bw) (cA (mC fK) (cA (mA fW) (ec ai hr (aa bg (aa (cA (mA bw) (cA (mC fK) ei (ji 1000000000)) ei) ah))) (ji 1000000000)) (ji 1000000000000000000000)) (ec ai hr (aa bg (aa (ji 1000000000) ah))))))))),?_⟩
 ext
 refine⟨p,6,rfl,hp,by decide,by decide,λd H1 d0 d1 qQ k1=>?_⟩
 ext
 have yes:∀(i:Int) (H':Hp),i.natAbs < 10 ^ 60->Wl H' p->Kp K p H H'->Q (.int i) H':=λi H' hi=>q (some i) H' (λj e=>by cases e;exact hi);refine ju (λc=>q none _ (λ_ h=>by cases h) qQ k1) (λc=>ju (λc=>?_) (λc=>?_))
 . exact⟨p,7,rfl,qQ,by decide,by decide,λe H2 e0 e1 lg k2=>⟨e,rfl,yes _ _ QR lg (k1.trans k2)⟩⟩
 . exact⟨p,_,rfl,qQ,by decide,by decide,λe H2 e0 e1 lg k2=>⟨e,rfl,.inl QR,p,_,rfl,lg,by decide,by decide,λg H3 g0 g1 AA k3=>⟨g,rfl,yes _ _ QR AA (k1.trans (k2.trans k3))⟩⟩⟩
inductive BF (K:Frag)(vs:List V)(H:Hp)(Q:VK)(E9:XK):Prop
 | mk (p:_) (_:vs=[.ref p]) (_:Wl H p) (_:∀(i:Int) (H':Hp),i.natAbs < 10 ^ 60->Wl H' p->Kp K p H H'->Q (.int i) H')
include B in
theorem vI (F:bQ K "_law_number" "_law_number" o8 f fd)(ai:⋯ "_law_draw" 1 ["_law_well_here","_law_many"] (ig K)):(!0) 2 f fd ["_law_well_here"] (BF K):=by
 exists 0,["_law_well_here"]
 obtain⟨p,rfl,hp,q⟩:=h;refine⟨_,(ak (gJ (cM (cg (om fq) (jm (ec ai hr (aa bg (aa ei ah)))) (jm ei) (aF _))) (aE (aN (cA (mC fK) (cA (mA fW) (ec ai hr (aa bg (aa (cA (mA bw) (cA (mC fK) ei (ji 1000000000)) ei) ah))) (ji 1000000000)) (ji 1000000000000000000000)))) b8) (aE (aN (cA (mA fW) (ec ai hr (aa bg (aa ei ah))) ei)))),?_⟩
 ext
 refine⟨p,6,rfl,hp,by decide,by decide,λd H1 d0 d1 qQ k1=>⟨rfl,ju (λc=>?_) (λc=>?_)⟩⟩
 . exact⟨p,_,rfl,qQ,by decide,by decide,λe H2 e0 e1 lg k2=>⟨e,rfl,.inl QR,q _ _ QR lg (k1.trans k2)⟩⟩
 . exact⟨p,5,rfl,qQ,by decide,by decide,λe H2 e0 e1 lg k2=>⟨e,rfl,q _ _ QR lg (k1.trans k2)⟩⟩
def bP.sm:bP->Prop
 | .plus n=>n.natAbs < 10 ^ 60
 | .is n=>n.natAbs < 10 ^ 60
 | .gone=>True
def vJ (K:Frag)(H:Hp)(v:V)(t m:bP):Prop:=∃a r s,v=.ref a/\tupQ K H a=some [.ref r,.ref s]/\tupQ K H r=some t.v/\tupQ K H s=some m.v
inductive BG (K:Frag)(vs:List V)(H:Hp)(Q:VK)(E9:XK):Prop
 | mk (p b:_) (_:vs=[.ref p,.bl b]) (_:Wl H p) (_:∀(v:V) (t m:bP) (H':Hp),vJ K H' v t m->t.sm->m.sm->(m=.gone∨(b=false/\∃i,m=.is i))->Wl H' p->Kp K p H H'->Q v H')
include B in
theorem vK (F:bQ K "_law_action" "_law_action" gP f fd)(ai:⋯ "_law_draw" 1 ["_law_well_here","_law_many"] (ig K))(fH:⋯ "_law_number" 2 ["_law_well_here"] (BF K)):(!0) 3 f fd ["_law_well_here","_law_wide"] (BG K):=by
 exists 0,["_law_well_here","_law_wide","_law_there","_law_none"]
 obtain⟨p,b,rfl,hp,q⟩:=h;refine aq (rest:=(aj gP).drop 2) (aE (aN (oR (aa fC (aa gB ah))))) λr2 J2 e2=>?_;refine aq (rest:=(aj gP).drop 1) (ak (ss 3 nk (tV (uw jv) (jx (aa (oR (aa cJ ah)) (aa (oR (aa cJ (aa (ec fH hr (aa bg ah)) ah))) ah))) (cA (mC fK) (ec ai hr (aa bg (aa ei ah))) (dI xV rfl B.int rP (aa (Zg (Q6 lE)) ah))) (λ_ _=>rfl))) J2) λr1 J1 e1=>?_;refine⟨_,(ak (ss 2 nk (tV (uw jv) (jx (aa (oR (aa cJ (aa (ec fH hr (aa bg ah)) ah))) (aa (oR (aa cJ (aa (ec fH hr (aa bg ah)) ah))) (aa (oR (aa cJ ah)) ah)))) (cA (mC lR) (ec ai hr (aa bg (aa ei ah))) ei) (λ_ _=>rfl))) J1),?_⟩
 ext
 refine⟨p,rfl,hp,λi H1 hi qQ k1 t1 n1=>?_⟩;have x1:=bX (.tup [V.str "plus",V.int i]) n1;refine⟨p,rfl,qQ.ext x1,λj H2 hj lg k2 t2 n2=>?_⟩
 ext
 intro t3 n3 D nD;have x2:=bX (.tup [V.str "is",V.int j]) n2;have x3:=bX (.tup [V.str "gone"]) n3;have x4:=bX (.lst [V.ref t1,V.ref t2,V.ref t3]) nD;obtain⟨ys,ep⟩:=(qQ.ext x1).lst;have xh:=lg.ext (x2.trans (x3.trans x4));have f1:tupQ K (upd H1 t1 (.tup [V.str "plus",V.int i])) t1=some (bP.plus i).v:=aK;have f1:=(x2.trans (x3.trans x4)).tup (k2.tup ep f1);have f2:tupQ K (upd H2 t2 (.tup [V.str "is",V.int j])) t2=some (bP.is j).v:=aK;have f2:=(x3.trans x4).tup f2;have f3:tupQ K (upd (upd H2 t2 (.tup [V.str "is",V.int j])) t3 (.tup [V.str "gone"])) t3=some bP.gone.v:=aK;have f3:=x4.tup f3;have k4:=k1.trans (x1.kp.trans (k2.trans (x2.trans (x3.trans x4)).kp));have fD:=af (H:=upd (upd H2 t2 (.tup [V.str "is",V.int j])) t3 (.tup [V.str "gone"])) (a:=D) (o:=.lst [V.ref t1,V.ref t2,V.ref t3]);have DN:D≠p:=(lg.ext (x2.trans x3)).ne nD;generalize upd (upd (upd H2 t2 (.tup [V.str (Str.ofString "is"),V.int j])) t3 (.tup [V.str (Str.ofString "gone")])) D (.lst [V.ref t1,V.ref t2,V.ref t3])=G at *;refine⟨p,7,rfl,xh,by decide,by decide,λd H5 d0 d1 xj k5=>⟨d,rfl,_,aI (k5.keep D _ fD DN),?_⟩⟩;obtain⟨ys,eq⟩:=xh.lst;obtain⟨r,t,er,ht,o9,hs⟩:∃r t,kZ [V.ref t1,V.ref t2,V.ref t3] (d / 3)=some (.ref r)/\tupQ K H5 r=some (bP.v t)/\t.sm/\True:=by
   rcases(by omega:d / 3=0∨d / 3=1∨d / 3=2)with e | e | e <;> rw[e]
   . exact⟨t1,.plus i,rfl,k5.tup eq f1,hi,trivial⟩
   . exact⟨t2,.is j,rfl,k5.tup eq f2,hj,trivial⟩
   . exact⟨t3,.gone,rfl,k5.tup eq f3,trivial,trivial⟩
 refine⟨_,er,?_⟩;have k6:=k4.trans k5;clear f1 f2 f3 fD xh qQ lg eq ep x1 x2 x3 x4;rw[e1]
 ext
 intro u1 m1;have x1:=bX (.tup [V.str "gone"]) m1;refine⟨p,rfl,xj.ext x1,λl H6 hl hp6 k7 u2 m2 u3 m3=>?_⟩;have x2:=bX (.tup [V.str "is",V.int l]) m2;have x3:=bX (.lst [V.ref u1,V.ref u2]) m3;obtain⟨ys,ep⟩:=(xj.ext x1).lst;have uB:=hp6.ext (x2.trans x3);have f1:tupQ K (upd H5 u1 (.tup [V.str "gone"])) u1=some bP.gone.v:=aK;have f1:=(x2.trans x3).tup (k7.tup ep f1);have f2:tupQ K (upd H6 u2 (.tup [V.str "is",V.int l])) u2=some (bP.is l).v:=aK;have f2:=x3.tup f2;have ft:=(x2.trans x3).tup (k7.tup ep (x1.tup ht));have k8:=k6.trans (x1.kp.trans (k7.trans (x2.trans x3).kp));have fD:=af (H:=upd H6 u2 (.tup [V.str "is",V.int l])) (a:=u3) (o:=.lst [V.ref u1,V.ref u2]);have DN:u3≠p:=(hp6.ext x2).ne m3;generalize upd (upd H6 u2 (.tup [V.str (Str.ofString "is"),V.int l])) u3 (.lst [V.ref u1,V.ref u2])=G7 at *;refine⟨p,2,rfl,uB,by decide,by decide,λg H8 g0 g1 Iu k9=>?_⟩;refine .inr ⟨g,rfl,.inl QR,_,aI (k9.keep u3 _ fD DN),?_⟩;obtain⟨ys,eq⟩:=uB.lst;obtain⟨s2,m,es,hm,sm,hg⟩:∃s2 m,kZ [V.ref u1,V.ref u2] (g * if (!b)=true then 1 else 0)=some (.ref s2)/\tupQ K H8 s2=some (bP.v m)/\m.sm/\(m=.gone∨(b=false/\∃i,m=.is i)):=by
   cases b
   . rcases(by omega:g=0∨g=1)with rfl | rfl
     . exact⟨u1,.gone,rfl,k9.tup eq f1,trivial,.inl rfl⟩
     . exact⟨u2,.is l,rfl,k9.tup eq f2,hl,.inr ⟨rfl,l,rfl⟩⟩
   . rcases(by omega:g=0∨g=1)with rfl | rfl <;> exact⟨u1,.gone,rfl,k9.tup eq f1,trivial,.inl rfl⟩
 refine⟨_,es,?_⟩;rw[e2]
 ext
 intro T nT;have xT:=bX (.tup [V.ref r,V.ref s2]) nT;exact q _ t m _ ⟨T,r,s2,rfl,aK,xT.tup (k9.tup eq ft),xT.tup hm⟩ o9 sm hg (Iu.ext xT) (k8.trans (k9.trans xT.kp))
def ir (K:Frag)(H:Hp)(v:V)(a b c:Int)(pl:Str):Prop:=∃R,v=.ref R/\tupQ K H R=some [.int a,.int b,.int c,.str pl]
structure DO (a b c:Int)(pl:Str):Prop where
 a:1<=a/\a<=64
 b:3<=b/\b<=16
 c:1<=c/\c<=64
 p:pl=Str.ofString "fullest"∨pl=Str.ofString "eldest"
inductive Fd (K:Frag)(vs:List V)(H:Hp)(Q:VK)(E9:XK):Prop
 | mk (p:_) (_:vs=[.ref p]) (_:Wl H p) (_:∀(v:V) (a b c:Int) (pl:Str) (H':Hp),ir K H' v a b c pl->DO a b c pl->Wl H' p->Kp K p H H'->Q v H')
include B in
theorem zY (F:bQ K "_law_rule" "_law_rule" fQ f fd)(ai:⋯ "_law_draw" 1 ["_law_well_here","_law_many"] (ig K)):(!0) 2 f fd ["_law_well_here"] (Fd K):=by
 exists 0,["_law_well_here","_law_way","_law_tray_here","_law_fan","_law_rows_here"]
 obtain⟨p,rfl,hp,q⟩:=h;refine aq (rest:=(aj fQ).drop 4) (aE (aN (oR (aa fC (aa gB (aa nH (aa (tV (uw jv) (jx (aa cJ (aa cJ ah))) (ec ai hr (aa bg (aa ei ah))) (λ_ _=>rfl)) ah))))))) λr4 J4 e4=>?_;refine aq (rest:=(aj fQ).drop 3) (ak (ss 4 nk (tV (uw jv) (jx (aa (cA (mA bw) ei (ec ai hr (aa bg (aa ei ah)))) (aa (cA (mA bw) ei (ec ai hr (aa bg (aa ei ah)))) ah))) cF (λ_ _=>rfl))) J4) λr3 J3 e3=>?_;refine aq (rest:=(aj fQ).drop 2) (ak (ss 3 nk (tV (uw jv) (jx (aa (cA (mA bw) ei (ec ai hr (aa bg (aa ei ah)))) (aa (cA (mA bw) ei (ec ai hr (aa bg (aa ei ah)))) ah))) cF (λ_ _=>rfl))) J3) λr2 J2 e2=>?_;refine aq (rest:=(aj fQ).drop 1) (ak (ss 2 nk (tV (uw jv) (jx (aa (cA (mA bw) ei (ec ai hr (aa bg (aa ei ah)))) (aa (cA (mA bw) ei (ec ai hr (aa bg (aa ei ah)))) ah))) cF (λ_ _=>rfl))) J2) λr1 J1 e1=>?_;refine⟨_,(ak (ss 1 nk (cA (mC lR) (ec ai hr (aa bg (aa ei ah))) ei)) J1),?_⟩
 ext
 refine⟨p,8,rfl,hp,by decide,by decide,λd H1 d0 d1 qQ k1=>⟨d,rfl,?_⟩⟩;have dd:d / 7=0∨d / 7=1:=QR
 rw[e1]
 ext
 refine⟨p,4,rfl,qQ,by decide,by decide,λa1 H2 a10 a11 lg k2=>⟨a1,rfl,p,64,rfl,lg,by decide,by decide,λa2 H3 a20 a21 AA k3=>⟨a2,rfl,λD nD=>?_⟩⟩⟩;obtain⟨a,ea,ha⟩:∃a,kZ [V.int (1 + a1),V.int (1 + a2)] (d / 7)=some (.int a)/\1<=a/\a<=64:=by
   rcases dd with e | e <;> rw[e]
   . exact⟨1 + a1,rfl,by omega,by omega⟩
   . exact⟨1 + a2,rfl,by omega,by omega⟩
 refine⟨_,ea,?_⟩;have x3:=bX (.lst [V.int (1 + a1),V.int (1 + a2)]) nD;have AA:=AA.ext x3;have k3:=k1.trans (k2.trans (k3.trans x3.kp));generalize upd H3 D _=G3 at AA k3 ⊢;rw[e2]
 ext
 refine⟨p,3,rfl,AA,by decide,by decide,λb1 H4 b10 b11 xh k4=>⟨b1,rfl,p,14,rfl,xh,by decide,by decide,λb2 H5 b20 b21 xj k5=>⟨b2,rfl,λD nD=>?_⟩⟩⟩;obtain⟨b,eb,hb⟩:∃b,kZ [V.int (3 + b1),V.int (3 + b2)] (d / 7)=some (.int b)/\3<=b/\b<=16:=by
   rcases dd with e | e <;> rw[e]
   . exact⟨3 + b1,rfl,by omega,by omega⟩
   . exact⟨3 + b2,rfl,by omega,by omega⟩
 refine⟨_,eb,?_⟩;have x5:=bX (.lst [V.int (3 + b1),V.int (3 + b2)]) nD;have xj:=xj.ext x5;have k5:=k3.trans (k4.trans (k5.trans x5.kp));generalize upd H5 D _=G5 at xj k5 ⊢;rw[e3]
 ext
 refine⟨p,4,rfl,xj,by decide,by decide,λc1 H6 c10 c11 hp6 k6=>⟨c1,rfl,p,64,rfl,hp6,by decide,by decide,λc2 H7 c20 c21 uB k7=>⟨c2,rfl,λD nD=>?_⟩⟩⟩;obtain⟨c,ec,hc⟩:∃c,kZ [V.int (1 + c1),V.int (1 + c2)] (d / 7)=some (.int c)/\1<=c/\c<=64:=by
   rcases dd with e | e <;> rw[e]
   . exact⟨1 + c1,rfl,by omega,by omega⟩
   . exact⟨1 + c2,rfl,by omega,by omega⟩
 refine⟨_,ec,?_⟩;have x7:=bX (.lst [V.int (1 + c1),V.int (1 + c2)]) nD;have uB:=uB.ext x7;have k7:=k5.trans (k6.trans (k7.trans x7.kp));generalize upd H7 D _=G7 at uB k7 ⊢;rw[e4]
 ext
 intro D nD;have x8:=bX (.lst [V.str (Str.ofString "fullest"),V.str (Str.ofString "eldest")]) nD;refine⟨p,2,rfl,uB.ext x8,by decide,by decide,λg H9 g0 g1 DP k9=>⟨g,rfl,_,aI (k9.keep D _ af (uB.ne nD)),?_⟩⟩;obtain⟨pl,ep,nu⟩:∃pl,kZ [V.str (Str.ofString "fullest"),V.str (Str.ofString "eldest")] g=some (.str pl)/\(pl=Str.ofString "fullest"∨pl=Str.ofString "eldest"):=by
   rcases(by omega:g=0∨g=1)with rfl | rfl
   . exact⟨_,rfl,.inl rfl⟩
   . exact⟨_,rfl,.inr rfl⟩
 refine⟨_,ep,λT nT=>?_⟩;exact q _ a b c pl _ ⟨T,rfl,aK⟩ ⟨ha,hb,hc,nu⟩ (DP.ext (Ext.new nT)) (k7.trans (x8.kp.trans (k9.trans (Ext.new nT).kp)))
structure Fr (K:Frag)(H0 H H':Hp):Prop where
 k:∀a o,new K H0 a->H a=some o->H' a=some o
 t:∀a xs,tupQ K H a=some xs->tupQ K H' a=some xs
theorem Fr.ext (x:Ext K H H'):Fr K H0 H H':=⟨λ_ _ _ h=>x.at h,λ_ _ h=>x.tup h⟩
theorem Fr.kp (h0:H0 p=some o)(hp:H p=some (.lst xs))(k:Kp K p H H'):Fr K H0 H H':=
 ⟨λa _ n h=>k.keep a _ h λz=>(by rw[z]at n;rw[n.1]at h0;cases h0),λ_ _ h=>k.tup hp h⟩
theorem Fr.trans {H2:Hp}(x:Fr K H0 H H1)(y:Fr K H0 H1 H2):Fr K H0 H H2:=⟨λa o n h=>y.k a o n (x.k a o n h),λa xs h=>y.t a xs (x.t a xs h)⟩
mutual
theorem aS.fr {H0 H H':Hp}(k:Fr K H0 H H'):∀{d:PyData}{v:V},aS K H0 H d v->aS K H0 H' d v
 | .none,v,h=>h
 | .int i,v,h=>h
 | .str s,v,h=>h
 | .list ds,v,h=>by
   unfold aS at h ⊢;obtain⟨a,vs,e,n,ha,hs⟩:=h;exact⟨a,vs,e,n,k.k a _ n ha,ao.fr k hs⟩
 | .tuple ds,v,h=>by
   unfold aS at h ⊢;obtain⟨a,vs,e,ha,hs⟩:=h;exact⟨a,vs,e,k.t _ _ ha,ao.fr k hs⟩
 | .bool _,v,h=>h
 | .dict _,v,h=>h
theorem ao.fr {H0 H H':Hp}(k:Fr K H0 H H'):∀{ds:List PyData}{vs:List V},ao K H0 H ds vs->ao K H0 H' ds vs
 | [],vs,h=>h
 | d::ds,vs,h=>by
   unfold ao at h ⊢;obtain⟨v,r,e,h1,h2⟩:=h;exact⟨v,r,e,aS.fr k h1,ao.fr k h2⟩
end
theorem uC {q a:Addr}{o':HO}(k:oO K p q H H')(hp:H' p=some o)(hq:H' q=some o')(n:new K H' a):new K H a:=by
 refine⟨?_,n.2⟩;cases e:H a with
 | none=>rfl
 | some u=>
   have:=k.keep a u e (λz=>by rw[z]at n;rw[n.1]at hp;cases hp) (λz=>by rw[z]at n;rw[n.1]at hq;cases hq);rw[n.1]at this;cases this
theorem fB {a:Addr}(k:Kp K p H H')(hp:H' p=some o)(n:new K H' a):new K H a:=uC (q:=p) k.l hp hp n
theorem ao.map {d:α->PyData}{l:List α}{a:α}(h:ao K H0 H (l.map d) us)(g:aS K H0 H (d a) u):ao K H0 H ((l++[a]).map d) (us++[u]):=by
 rw[bo];exact h.snoc g
def ZC (o:Option Int):Prop:=∀i,o=some i->i.natAbs < 10 ^ 60
structure ZD (vs:List jq):Prop where
 l:0 < vs.length/\vs.length<=5
 n:∀p∈vs,0<=p.1/\p.1 < 40/\ZC p.2
 up:(vs.map (·.1)).Pairwise (· < ·)
structure xm (lo hi c:Int)(rows:List (Int×List jq)):Prop where
 l:rows.length<=24/\(rows.length:Int)<=c
 k:∀r∈rows,lo<=r.1/\r.1 < hi
 v:∀r∈rows,ZD r.2
 up:(rows.map (·.1)).Pairwise (· < ·)
theorem zZ {l:List Int}(h:l.Pairwise (· < ·))(g:∀i∈l,i < n):(l++[n]).Pairwise (· < ·):=by
 rw[nz];exact⟨h,Bi _ _,λa ha b hb=>by rw[cw.mp hb];exact g a ha⟩
inductive uD (K:Frag)(vs:List V)(H:Hp)(Q:VK)(E9:XK):Prop
 | mk (p rv a b c pl lo hi:_) (_:vs=[.ref p,rv,.int lo,.int hi]) (_:Wl H p) (_:ir K H rv a b c pl) (_:DO a b c pl) (_:0<=lo) (_:lo<=hi) (_:hi<=lo + 24) (_:hi<=10 ^ 12) (_:∀D us rows H',new K H D->H' D=some (.lst us)->ao K H H' (rows.map fk) us->xm lo hi c rows->Wl H' p->Kp K p H H'->Q (.ref D) H')
include B in
theorem z7 (F:bQ K "_law_rows" "_law_rows" fR f fd)(ai:⋯ "_law_draw" 1 ["_law_well_here","_law_many"] (ig K))(kj:⋯ "_law_value" 2 ["_law_well_here"] (Fc K)):(!0) 3 f fd ["_law_well_here","_law_rule_here","_law_low","_law_high"] (uD K):=by
 exists 0,["_law_well_here","_law_rule_here","_law_low","_law_high","_law_found","_law_key","_law_number_here","_law_versions","_law_turn"]
 obtain⟨p,rv,a,b,c,pl,lo,hi,rfl,hp,⟨R0,rfl,hR0⟩,ro,l0,l1,l2,l3,q⟩:=h;refine aq (rest:=(rZ ((cR ((aj fR).getD 1 (.Pass ⟨0,0,0,0⟩))).getD 0 (.Pass ⟨0,0,0,0⟩))).drop 3) (aE (qt (SN PySem.F.plainAttrs_list PySem.F.slot_list_append PySem.F.type_list_append fM nH (aa (oR (aa tZ (aa HL ah))) ah)))) λr4 J4 e4=>?_;refine aq (rest:=(cR ((rZ ((cR ((aj fR).getD 1 (.Pass ⟨0,0,0,0⟩))).getD 0 (.Pass ⟨0,0,0,0⟩))).getD 2 (.Pass ⟨0,0,0,0⟩))).drop 1) (aE (ss 6 nk (cA (mA bw) (cA (mA bw) Cm ei) (ec ai hr (aa bg (aa ei ah)))))) λr3 J3 e3=>?_;refine aq (rest:=(rZ ((cR ((aj fR).getD 1 (.Pass ⟨0,0,0,0⟩))).getD 0 (.Pass ⟨0,0,0,0⟩))).drop 1) (ak (ss 7 nk (jx ah)) (ak (lT PassesOwn.never rfl (SY (ny rfl B.range (am (aa (tV (uw jv) (jx (aa ei (aa ei (aa ei (aa ei ah))))) (ec ai hr (aa bg (aa ei ah))) (λ_ _=>rfl)) ah)))) (gn 8 nk) (ak (qt (SN PySem.F.plainAttrs_list PySem.F.slot_list_append PySem.F.type_list_append fM HL (aa (oR (aa Cm (aa (ec kj hr (aa bg ah)) ah))) ah))) J3)) J4)) λr2 J2 e2=>?_;refine aq (rest:=(rZ ((cR ((aj fR).getD 1 (.Pass ⟨0,0,0,0⟩))).getD 0 (.Pass ⟨0,0,0,0⟩))).drop 0) (ak (ss 6 nk (tV (uw jv) (jx (aa ei (aa ei (aa (ec ai hr (aa bg (aa ei ah))) ah)))) (ec ai hr (aa bg (aa ei ah))) (λ_ _=>rfl))) J2) λr1 J1 e1=>?_;refine⟨_,(ak (ss 4 nk (jx ah)) (ak (lT PassesOwn.never rfl (Zh (zw rfl B.range (am (aa fC (aa gB ah))))) (gn 5 nk) (aE (gJ (tw (Jv (cM (cg (om fq) (jm (ec ai hr (aa bg (aa ei ah)))) (jm ei) (aF _))) (A4 (cM (cg (om (mA iN)) (jm (t6 B.len nH)) (jm (iq cF)) (aF _)))))) J1 b8))) (aE (aN nH)))),?_⟩
 ext
 intro R nR;have Mj:R≠p:=hp.ne nR;obtain⟨yp,ep⟩:=hp.lst;have x1:=bX (.lst []) nR;have qQ:=hp.ext x1;have Xs:upd H R (.lst []) p=some (.lst yp):=x1.at ep;have e0R:upd H R (.lst []) R=some (.lst []):=af;have N2:=x1.tup hR0;generalize eG:upd H R (.lst [])=G0 at *;refine⟨by omega,by omega,by omega,by omega,?_⟩;refine jY (λi σ H'=>Ex6 λ(v5 v6 v7 v8:Option V) (us:List V) (rows:List (Int×List jq))=>Zp (uy σ [some (.ref p),some (.ref R0),some (.int lo),some (.int hi),some (.ref R),v5,v6,v7,v8]) (H' R=some (.lst us)) (ao K G0 H' (rows.map fk) us) (rows.length<=i) (xm lo (lo + i) c rows) (Wl H' p) (Fr K G0 G0 H') (oO K p R G0 H')) ⟨_,_,_,_,[],[],rfl,e0R,ao.nil,ar _,⟨⟨by decide,by have:=ro.c;simp;omega⟩,λ_ h=>absurd h List.not_mem_nil,λ_ h=>absurd h List.not_mem_nil,.nil⟩,qQ,Fr.ext Ext.refl,oO.refl⟩ ?_ ?_
 . rintro i σ H1 fF ⟨v5,v6,v7,v8,us,rows,rfl,h1,h2,h3,h4,h5,h6,h7⟩
   ext
   have YR:(i:Int) < hi - lo:=QR
   obtain⟨y1,ep1⟩:=h5.lst;refine⟨p,2,rfl,h5,by decide,by decide,λd H2 d0 d1 lg k2=>⟨rfl,?_⟩⟩;have N3:=Fr.kp Xs ep1 k2;have Si:=k2.keep R _ h1 Mj;have ZE:=h2.fr N3;have Xu:=h6.trans N3;have ZF:=h7.trans k2.l;have Wj:xm lo (lo + ((i + 1:Nat):Int)) c rows:=⟨h4.l,λr hr=>by have:=h4.k r hr;omega,h4.v,h4.up⟩
   refine ju (λc1=>⟨_,aI Si,_,aQ (Xu.t _ _ N2),_,rfl,c,rfl,ju (λc2=>?_) (λ_=>⟨_,_,_,_,us,rows,rfl,Si,ZE,by omega,Wj,lg,Xu,ZF⟩)⟩) (λ_=>⟨_,_,_,_,us,rows,rfl,Si,ZE,by omega,Wj,lg,Xu,ZF⟩);clear Wj;rw[e1]
   ext
   have lu:us.length=rows.length:=by rw[h2.len,ab]
   refine⟨p,9,rfl,lg,by decide,by decide,λn9 H3 n90 n91 AA k3 D1 nD1=>?_⟩;have y1:=bX (.lst [V.int 0,V.int 0,V.int n9]) nD1;refine⟨p,3,rfl,AA.ext y1,by decide,by decide,λm3 H4 m30 m31 xh k4=>⟨m3,rfl,_,aI (k4.keep D1 _ af (AA.ne nD1)),?_⟩⟩;obtain⟨n0,en0,hn0⟩:∃n,kZ [V.int 0,V.int 0,V.int n9] m3=some (.int n)/\0<=n/\n<=8:=by
     rcases(by omega:m3=0∨m3=1∨m3=2)with rfl | rfl | rfl
     . exact⟨0,rfl,by decide,by decide⟩
     . exact⟨0,rfl,by decide,by decide⟩
     . exact⟨n9,rfl,by omega,by omega⟩
   have Xv:=k3.trans (y1.kp.trans k4);obtain⟨y2,ep2⟩:=lg.lst;have fr4:=Xu.trans (Fr.kp Xs ep2 Xv);have h24:=ZE.fr (Fr.kp Xs ep2 Xv);have Xw:=Xv.keep R _ Si Mj;have h74:=ZF.trans Xv.l;refine⟨_,en0,?_⟩;rw[e2]
   ext
   intro D2 nD2 D3 nD3;have z1:=bX (.lst []) nD2;have z2:=bX (.lst [V.int 1,V.int 1,V.int 2,V.int 5]) nD3;refine⟨p,4,rfl,xh.ext (z1.trans z2),by decide,by decide,λm4 H5 m40 m41 xj k5=>⟨m4,rfl,_,aI (k5.keep D3 _ af ((xh.ext z1).ne nD3)),?_⟩⟩;obtain⟨j,ej,hj⟩:∃n,kZ [V.int 1,V.int 1,V.int 2,V.int 5] m4=some (.int n)/\1<=n/\n<=5:=by
     rcases(by omega:m4=0∨m4=1∨m4=2∨m4=3)with rfl | rfl | rfl | rfl
     . exact⟨1,rfl,by decide,by decide⟩
     . exact⟨1,rfl,by decide,by decide⟩
     . exact⟨2,rfl,by decide,by decide⟩
     . exact⟨5,rfl,by decide,by decide⟩
   refine⟨_,ej,j,rfl,by omega,by omega,?_⟩;have ne2:D2≠p:=xh.ne nD2;have ZG:R≠D2:=aH Xw nD2.1;have d5:H5 D2=some (.lst []):=k5.keep D2 _ (z2.at af) ne2;have kD:oO K p D2 (upd H4 D2 (.lst [])) H5:=(z2.kp.trans k5).l;have hR5:=kD.keep R _ (z1.at Xw) Mj ZG;obtain⟨y5,ep5⟩:=xj.lst;refine jY (λk σ H'=>Xo λ(v8:Option V) (n:Int) (vs:List V) (ws:List jq)=>Zq (uy σ [some (.ref p),some (.ref R0),some (.int lo),some (.int hi),some (.ref R),some (.int (lo + i)),some (.int n),some (.ref D2),v8]) (H' D2=some (.lst vs)) (ao K H5 H' (ws.map iH) vs) (ws.length=k) (0<=n/\n<=8 + 4 * k) (∀q∈ws,0<=q.1/\q.1 < n/\ZC q.2) ((ws.map (·.1)).Pairwise (· < ·)) (Wl H' p) (oO K p D2 H5 H')) ⟨_,n0,[],[],rfl,d5,ao.nil,rfl,by omega,λ_ h=>absurd h List.not_mem_nil,.nil,xj,oO.refl⟩ ?_ ?_
   . rintro k σ H6 hk ⟨v8,n,vs,ws,rfl,g1,g2,g3,g4,g5,g6,hp6,k6⟩;have Cg:k < 5:=QR
     have lv:vs.length=ws.length:=by rw[g2.len,ab]
     ext
     obtain⟨y6,ep6⟩:=hp6.lst;refine⟨.inl ⟨_,aR.of g1⟩,p,rfl,hp6,λo H7 so uB k7 t1 n1=>?_⟩;have a1:=bX (.tup [V.int n,on o]) n1;have Xx:=a1.at (k7.keep D2 _ g1 ne2);have f7:=(Fr.kp ep5 ep6 k7).trans (Fr.ext a1);have N4:aS K H5 (upd H7 t1 (.tup [V.int n,on o])) (iH (n,o)) (.ref t1):=by
       unfold iH;exact aS.tt.mpr ⟨t1,_,rfl,aK,ao.cons (aS.ii.mpr rfl) (ao.cons (aS.oo.mpr rfl) ao.nil)⟩
     have gg:=(g2.fr f7).map N4;have f8:=Fr.kp (K:=K) d5 Xx (Kp.upd (o:=.lst (vs++[V.ref t1])) Xx);have gg:=gg.fr f8;have Iu:=(uB.ext a1).upd (o:=.lst (vs++[V.ref t1])) ne2.symm;have k8:=k6.trans ((k7.trans a1.kp).l.trans (Kp.r (Kp.upd (o:=.lst (vs++[V.ref t1])) Xx)));refine⟨_,Xx,by omega,?_⟩;have g18:=af (H:=upd H7 t1 (.tup [V.int n,on o])) (a:=D2) (o:=.lst (vs++[V.ref t1]));generalize upd (upd H7 t1 (.tup [V.int n,on o])) D2 (.lst (vs++[V.ref t1]))=G8 at *;obtain⟨y8,ep8⟩:=Iu.lst;rw[e3]
     ext
     refine⟨p,4,rfl,Iu,by decide,by decide,λm H9 m0 m1 DP k9=>⟨m,rfl,_,_,_,ws++[(n,o)],rfl,k9.keep D2 _ g18 ne2,gg.fr (Fr.kp ep5 ep8 k9),by rw[ax,g3];rfl,⟨by omega,by omega⟩,λx hx=>?_,?_,DP,k8.trans k9.l⟩⟩
     . rcases da.mp hx with hx | hx
       . have:=g5 x hx;exact⟨this.1,by omega,this.2.2⟩
       . rw[cw.mp hx];exact⟨g4.1,by show n < _;omega,so⟩
     . rw[bo];refine zZ g6 λx hx=>?_;obtain⟨y,hy,rfl⟩:=gs.mp hx;exact(g5 y hy).2.1
   . rintro σ H6 ⟨v8,n,vs,ws,rfl,g1,g2,g3,g4,g5,g6,hp6,k6⟩;rw[e4]
     ext
     have ZH:Kp K p H4 H6:=(kD.trans k6).kp nD2;have Wk:=ZH.keep R _ Xw Mj;obtain⟨y4,ep4⟩:=xh.lst;have f46:=Fr.kp (H0:=G0) Xs ep4 ZH;have h26:=h24.fr f46;refine⟨.inl ⟨_,aR.of Wk⟩,λT nT=>?_⟩;have a1:=bX (.tup [V.int (lo + i),V.ref D2]) nT;have Sj:=a1.at Wk;have nb:∀a,new K H4 a->new K G0 a:=λa n=>uC h74 ep4 Xw n;have n5:∀a,new K H5 a->new K G0 a:=λa n=>nb a (fB (kD.kp nD2) ep5 n);have N4:aS K G0 (upd H6 T (.tup [V.int (lo + i),V.ref D2])) (fk (lo + i,ws)) (.ref T):=by
       unfold fk;exact aS.tt.mpr ⟨T,_,rfl,aK,ao.cons (aS.ii.mpr rfl) (ao.cons (aS.ll.mpr ⟨D2,vs,rfl,nb D2 nD2,a1.at g1,(g2.pN n5).ext a1⟩) ao.nil)⟩
     have gg:=(h26.ext a1).map N4;have f8:=Fr.kp (K:=K) e0R Sj (Kp.upd (o:=.lst (us++[V.ref T])) Sj);have gg:=gg.fr f8;refine⟨_,Sj,by omega,_,_,_,_,_,rows++[(lo + i,ws)],rfl,rfl,gg,by rw[ax];simp;omega,?_,((hp6.ext a1).upd Mj.symm),fr4.trans (f46.trans ((Fr.ext a1).trans f8)),h74.trans ((ZH.trans a1.kp).l.trans (Kp.r (Kp.upd Sj)))⟩;refine⟨⟨by rw[ax];simp;omega,by rw[ax];simp;omega⟩,λr hr=>?_,λr hr=>?_,?_⟩
     . rcases da.mp hr with hr | hr
       . have:=h4.k r hr;omega
       . rw[cw.mp hr];constructor <;> (dsimp only;omega)
     . rcases da.mp hr with hr | hr
       . exact h4.v r hr
       . rw[cw.mp hr];exact⟨by dsimp only;omega,λq hq=>⟨(g5 q hq).1,by have:=(g5 q hq).2.1;omega,(g5 q hq).2.2⟩,g6⟩
     . rw[bo];refine zZ h4.up λx hx=>?_;obtain⟨y,hy,rfl⟩:=gs.mp hx;exact(h4.k y hy).2
 . rintro σ H1 ⟨v5,v6,v7,v8,us,rows,rfl,h1,h2,h3,h4,h5,h6,h7⟩
   ext
   rw[<- eG]at h7 h2;have el:lo + ((hi - lo).toNat:Int)=hi:=QR
   rw[el]at h4;exact q R us rows H1 nR h1 (h2.old (Ext.new nR)) h4 h5 (h7.kp nR)
def Nt.rn (e:Nt):RN:=⟨some e.n,some e.lo,some e.hi,some e.t,some e.m⟩
def Nt.d (e:Nt):PyData:=e.rn.d
theorem Fe {a:Addr}{t:bP}(h:tupQ K H a=some t.v):aS K H0 H (HS (some t)) (.ref a):=by
 cases t with
 | plus n=>exact aS.tt.mpr ⟨a,_,rfl,h,ao.cons (aS.ss.mpr rfl) (ao.cons (aS.ii.mpr rfl) ao.nil)⟩
 | is n=>exact aS.tt.mpr ⟨a,_,rfl,h,ao.cons (aS.ss.mpr rfl) (ao.cons (aS.ii.mpr rfl) ao.nil)⟩
 | gone=>exact aS.tt.mpr ⟨a,_,rfl,h,ao.cons (aS.ss.mpr rfl) ao.nil⟩
theorem N5 {v:V}{e:Nt}(h:tupQ K H T=some [.int e.n,.int e.lo,.int e.hi,v])(g:vJ K H v e.t e.m):aS K H0 H e.d (.ref T):=by
 obtain⟨a,r,s,rfl,h1,h2,h3⟩:=g;exact aS.tt.mpr ⟨T,_,rfl,h,ao.cons (aS.ii.mpr rfl) (ao.cons (aS.ii.mpr rfl) (ao.cons (aS.ii.mpr rfl) (ao.cons (aS.tt.mpr ⟨a,_,rfl,h1,ao.cons (Fe h2) (ao.cons (Fe h3) ao.nil)⟩) ao.nil)))⟩
theorem vJ.ext {v:V}{t m:bP}(h:vJ K H v t m)(x:Ext K H H'):vJ K H' v t m:=by
 obtain⟨a,r,s,e,h1,h2,h3⟩:=h;exact⟨a,r,s,e,x.tup h1,x.tup h2,x.tup h3⟩
structure Sk (lo hi f:Int)(e:Nt):Prop where
 s:lo<=e.lo/\e.lo < e.hi/\e.hi<=hi
 n:40 * f < e.n/\e.n < 40 * f + 40
 t:e.t.sm
 m:e.m=.gone∨∃i,e.m=.is i/\i.natAbs < 10 ^ 60/\e.hi - e.lo=1
structure N6 (lo hi f a:Int)(aU:List Nt):Prop where
 l:aU.length<=5/\(aU.length:Int)<=a
 e:∀e∈aU,Sk lo hi f e
 up:(aU.map (·.n)).Pairwise (· < ·)
inductive z8 (K:Frag)(vs:List V)(H:Hp)(Q:VK)(E9:XK):Prop
 | mk (p rv a b c pl eT e0 e1 nT n0 n1 f:_) (_:vs=[.ref p,rv,.ref eT,.ref nT,.int f]) (_:Wl H p) (_:ir K H rv a b c pl) (_:DO a b c pl) (_:tupQ K H eT=some [.int e0,.int e1]) (_:tupQ K H nT=some [.int n0,.int n1]) (_:e0<=n0) (_:n0 < n1) (_:n1<=e1) (_:n1<=n0 + 30) (_:1<=f) (_:f<=3) (_:0<=e0) (_:e1<=10 ^ 12) (_:∀D us aU H',new K H D->H' D=some (.lst us)->ao K H H' (aU.map Nt.d) us->N6 e0 e1 f a aU->Wl H' p->Kp K p H H'->Q (.ref D) H')
include B in
theorem Aa (F:bQ K "_law_tray" "_law_tray" eY f fd)(ai:⋯ "_law_draw" 1 ["_law_well_here","_law_many"] (ig K))(jy:⋯ "_law_action" 3 ["_law_well_here","_law_wide"] (BG K)):(!0) 4 f fd ["_law_well_here","_law_rule_here","_law_ends","_law_near","_law_floor"] (z8 K):=by
 exists 0,["_law_well_here","_law_rule_here","_law_ends","_law_near","_law_floor","_law_number_here","_law_found","_law_k","_law_low","_law_high","_law_some"]
 obtain⟨p,rv,a,b,c,pl,eT,w0,w1,nT,n0,n1,f,rfl,hp,⟨R0,rfl,hR0⟩,ro,he,hn,l0,l1,l2,l3,f1,f2,l4,l5,q⟩:=h;refine aq (rest:=(cR ((aj eY).getD 2 (.Pass ⟨0,0,0,0⟩))).drop 5) (aE (qt (SN PySem.F.plainAttrs_list PySem.F.slot_list_append PySem.F.type_list_append fM Cm (aa (oR (aa tZ (aa yL (aa O8 (aa (ec jy hr (aa bg (aa (fE (mA AN) (cA (mA fW) O8 yL) ei (aF _)) ah))) ah))))) ah)))) λr5 J5 e5=>?_;refine aq (rest:=(cR ((aj eY).getD 2 (.Pass ⟨0,0,0,0⟩))).drop 4) (ak (iS (tV (uw jv) Dz (ec ai hr (aa bg (aa ei ah))) (λ_ _=>rfl)) (lA (dD (n:=2) rfl (ay (gn 8 nk) (ay (gn 9 nk) dR))))) J5) λr4 J4 e4=>?_;refine aq (rest:=(cR ((aj eY).getD 2 (.Pass ⟨0,0,0,0⟩))).drop 3) (ak (ss 10 nk (jx (aa (oR (aa yL (aa (cA (mA bw) yL ei) ah))) (aa (oR (aa yL (aa (cA (mA bw) yL ei) ah))) (aa (oR (aa yL (aa O8 ah))) (aa fC (aa (oR (aa (iq fC) (aa O8 ah))) (aa (oR (aa yL (aa (iq fC) ah))) ah)))))))) J4) λr3 J3 e3=>?_;refine aq (rest:=(cR ((aj eY).getD 2 (.Pass ⟨0,0,0,0⟩))).drop 2) (ak (ss 9 nk (cA (mA bw) (cA (mA bw) yL ei) (ec ai hr (aa bg (aa (cA (mA fW) (iq gB) yL) ah))))) J3) λr2 J2 e2=>?_;refine aq (rest:=(cR ((aj eY).getD 2 (.Pass ⟨0,0,0,0⟩))).drop 1) (ak (ss 8 nk (cA (mA bw) (iq gB) (ec ai hr (aa bg (aa (cA (mA fW) (iq gB) (iq gB)) ah))))) J2) λr1 J1 e1=>?_;refine⟨_,(ak (ss 5 nk (cA (mA bw) (cA (mC fK) ei nH) (ec ai hr (aa bg (aa ei ah))))) (ak (ss 6 nk (jx ah)) (ak (lT PassesOwn.never rfl (SY (ny rfl B.range (am (aa (ec ai hr (aa bg (aa (cA (mA bw) (bW (rK rfl) rfl B.min CU (aa (iq cF) (aa ei ah))) ei) ah))) ah)))) (gn 7 nk) (ak (ss 5 nk (cA (mA bw) (cA (mA bw) tZ ei) (tV (uw jv) (jx (aa ei (aa ei (aa (ec ai hr (aa bg (aa ei ah))) ah)))) (ec ai hr (aa bg (aa ei ah))) (λ_ _=>rfl)))) J1)) (aE (aN Cm))))),?_⟩
 ext
 refine⟨p,8,rfl,hp,by decide,by decide,λd H1 d0 d1 qQ k1=>⟨d,rfl,λR nR=>?_⟩⟩;obtain⟨yp,ep⟩:=hp.lst;have x1:=bX (.lst []) nR;have Mj:R≠p:=qQ.ne nR;obtain⟨y1,ep1⟩:=qQ.lst;have N2:=x1.tup (k1.tup ep hR0);have ZI:=x1.tup (k1.tup ep he);have Xy:=x1.tup (k1.tup ep hn);simp_arith [aQ N2];refine⟨p,_,rfl,qQ.ext x1,by have:=ro.a;omega,by have:=ro.a;omega,λm H2 m0 m1 lg k2=>⟨m,rfl,by omega,by omega,?_⟩⟩;have hm5:m<=5/\m<=a:=QR
 have e2R:H2 R=some (.lst []):=k2.keep R _ af Mj;obtain⟨y2,e2p⟩:=lg.lst;obtain⟨yx,epx⟩:=(qQ.ext x1).lst;have N2:=k2.tup epx N2;have ZI:=k2.tup epx ZI;have Xy:=k2.tup epx Xy;have kR:oO K p R (upd H1 R (.lst [])) H2:=k2.l;refine jY (λi σ H'=>Zn λ(n:Int) (v6 v7 v8 v9 v10:Option V) (us:List V) (aU:List Nt)=>Sd (uy σ [some (.ref p),some (.ref R0),some (.ref eT),some (.ref nT),some (.int f),some (.int n),some (.ref R),v6,v7,v8,v9]) (H' R=some (.lst us)) (ao K H2 H' (aU.map Nt.d) us) (aU.length=i) (40 * f<=n/\n<=40 * f + 7 + 5 * i) (∀e∈aU,Sk w0 w1 f e/\e.n<=n) ((aU.map (·.n)).Pairwise (· < ·)) (Wl H' p) (Fr K H2 H2 H') (oO K p R H2 H')) ⟨_,_,_,_,_,none,[],[],rfl,e2R,ao.nil,rfl,by omega,λ_ h=>absurd h List.not_mem_nil,.nil,lg,Fr.ext Ext.refl,oO.refl⟩ ?_ ?_
 . rintro i σ H3 hi ⟨n,v6,v7,v8,v9,_,us,aU,rfl,h1,h2,h3,h4,h5,h6,h7,h8,h9⟩
   ext
   have hi5:i < 5:=QR
   obtain⟨y3,ep3⟩:=h7.lst;refine⟨p,5,rfl,h7,by decide,by decide,λg H4 g0 g1 xh k4 D1 nD1=>?_⟩;have z1:=bX (.lst [V.int 0,V.int 0,V.int g]) nD1;refine⟨p,3,rfl,xh.ext z1,by decide,by decide,λm3 H5 m30 m31 xj k5=>⟨m3,rfl,_,aI (k5.keep D1 _ af (xh.ne nD1)),?_⟩⟩;obtain⟨u,eu,hu⟩:∃n,kZ [V.int 0,V.int 0,V.int g] m3=some (.int n)/\0<=n/\n<=4:=by
     rcases(by omega:m3=0∨m3=1∨m3=2)with rfl | rfl | rfl
     . exact⟨0,rfl,by decide,by decide⟩
     . exact⟨0,rfl,by decide,by decide⟩
     . exact⟨g,rfl,by omega,by omega⟩
   have k35:=k4.trans (z1.kp.trans k5);have f5:=h8.trans (Fr.kp e2p ep3 k35);have hn5:=f5.t _ _ Xy;refine⟨_,eu,u,rfl,?_⟩;rw[e1];simp_arith [aQ hn5];refine⟨p,_,rfl,xj,by omega,by omega,λl H6 l00 l01 hp6 k6=>⟨l,rfl,?_⟩⟩;rw[e2];obtain⟨y5,ep5⟩:=xj.lst;have f6:=f5.trans (Fr.kp e2p ep5 k6);have hn6:=f6.t _ _ Xy;simp_arith [aQ hn6];refine⟨p,_,rfl,hp6,by omega,by omega,λr H7 ra rb uB k7=>⟨r,rfl,?_⟩⟩;rw[e3];obtain⟨y6,ep6⟩:=hp6.lst;have f7:=f6.trans (Fr.kp e2p ep6 k7);have Pc:=f7.t _ _ ZI
   ext
   intro s1 m1 s2 m2 s3 m3';have b1:=bX (.tup [V.int (n0 + l),V.int (n0 + l + 1)]) m1;have b2:=bX (.tup [V.int (n0 + l),V.int (n0 + l + 1)]) m2;have b3:=bX (.tup [V.int (n0 + l),V.int (n0 + l + 1 + r)]) m3';refine⟨_,aQ ((b1.trans (b2.trans b3)).tup Pc),_,rfl,λs4 m4=>?_⟩;have b4:=bX (.tup [V.int w0,V.int (n0 + l + 1 + r)]) m4;refine⟨_,aQ ((b1.trans (b2.trans (b3.trans b4))).tup Pc),_,rfl,λs5 m5 s6 m6=>?_⟩;have b5:=bX (.tup [V.int (n0 + l),V.int w1]) m5;have b6:=bX (.lst [V.ref s1,V.ref s2,V.ref s3,V.ref eT,V.ref s4,V.ref s5]) m6;have B6:=b1.trans (b2.trans (b3.trans (b4.trans (b5.trans b6))));have q1:=(b2.trans (b3.trans (b4.trans (b5.trans b6)))).tup (aK (H:=H7) (a:=s1) (xs:=[V.int (n0 + l),V.int (n0 + l + 1)]));have q2:=(b3.trans (b4.trans (b5.trans b6))).tup (aK (H:=upd H7 s1 (.tup [V.int (n0 + l),V.int (n0 + l + 1)])) (a:=s2) (xs:=[V.int (n0 + l),V.int (n0 + l + 1)]));have q3:=(b4.trans (b5.trans b6)).tup (aK (a:=s3) (xs:=[V.int (n0 + l),V.int (n0 + l + 1 + r)]));have q4:=(b5.trans b6).tup (aK (a:=s4) (xs:=[V.int w0,V.int (n0 + l + 1 + r)]));have q5:=b6.tup (aK (a:=s5) (xs:=[V.int (n0 + l),V.int w1]));have q6:=B6.tup Pc;have ZJ:s6≠p:=(uB.ext (b1.trans (b2.trans (b3.trans (b4.trans b5))))).ne m6;have ZK:=af (H:=upd (upd (upd (upd (upd H7 s1 (.tup [V.int (n0 + l),V.int (n0 + l + 1)])) s2 (.tup [V.int (n0 + l),V.int (n0 + l + 1)])) s3 (.tup [V.int (n0 + l),V.int (n0 + l + 1 + r)])) s4 (.tup [V.int w0,V.int (n0 + l + 1 + r)])) s5 (.tup [V.int (n0 + l),V.int w1])) (a:=s6) (o:=.lst [V.ref s1,V.ref s2,V.ref s3,V.ref eT,V.ref s4,V.ref s5]);have Iu:=uB.ext B6;have f8:=f7.trans (Fr.ext B6);have k8:=k35.trans (k6.trans (k7.trans B6.kp));generalize upd (upd (upd (upd (upd (upd H7 s1 _) s2 _) s3 _) s4 _) s5 _) s6 _=G8 at q1 q2 q3 q4 q5 q6 ZK Iu f8 k8 ⊢;rw[e4]
   ext
   refine⟨p,6,rfl,Iu,by decide,by decide,λd6 H9 d60 d61 DP k9=>⟨d6,rfl,_,aI (k9.keep s6 _ ZK ZJ),?_⟩⟩;obtain⟨y8,ep8⟩:=Iu.lst;obtain⟨S,lo,fF,eS,qS,WX⟩:∃S lo fF,kZ [V.ref s1,V.ref s2,V.ref s3,V.ref eT,V.ref s4,V.ref s5] d6=some (.ref S)/\tupQ K G8 S=some [V.int lo,V.int fF]/\w0<=lo/\lo < fF/\fF<=w1:=by
     rcases(by omega:d6=0∨d6=1∨d6=2∨d6=3∨d6=4∨d6=5)with rfl | rfl | rfl | rfl | rfl | rfl
     . exact⟨s1,_,_,rfl,q1,by omega,by omega,by omega⟩
     . exact⟨s2,_,_,rfl,q2,by omega,by omega,by omega⟩
     . exact⟨s3,_,_,rfl,q3,by omega,by omega,by omega⟩
     . exact⟨eT,_,_,rfl,q6,by omega,by omega,by omega⟩
     . exact⟨s4,_,_,rfl,q4,by omega,by omega,by omega⟩
     . exact⟨s5,_,_,rfl,q5,by omega,by omega,by omega⟩
   have qS:=k9.tup ep8 qS;clear q1 q2 q3 q4 q5 q6 ZK b1 b2 b3 b4 b5 b6 B6;refine⟨_,eS,S,rfl,_,qS,rfl,_,_,rfl,_,_,rfl,rfl,?_⟩;have f9:=f8.trans (Fr.kp e2p ep8 k9);have ZL:=k8.trans k9;have h19:=ZL.keep R _ h1 Mj;rw[e5]
   ext
   refine⟨.inl ⟨_,aR.of h19⟩,p,_,rfl,DP,λv t m H10 hv st sm gm hp10 DQ T nT=>?_⟩;obtain⟨y9,ep9⟩:=DP.lst;have a1:=bX (.tup [V.int (n + 1 + u),V.int lo,V.int fF,v]) nT;have N7:=a1.at (DQ.keep R _ h19 Mj);have lu:us.length=aU.length:=by rw[h2.len,ab]
   have f39:=(Fr.kp (K:=K) (H0:=H2) e2p ep3 ZL).trans ((Fr.kp e2p ep9 DQ).trans (Fr.ext a1));have N4:aS K H2 (upd H10 T (.tup [V.int (n + 1 + u),V.int lo,V.int fF,v])) (Nt.d ⟨n + 1 + u,lo,fF,t,m⟩) (.ref T):=N5 aK (hv.ext a1);have fu:=Fr.kp (K:=K) e2R N7 (Kp.upd (o:=.lst (us++[V.ref T])) N7);have gg:=((h2.fr f39).map N4).fr fu;refine⟨_,N7,by omega,_,_,_,_,_,none,_,aU++[⟨n + 1 + u,lo,fF,t,m⟩],rfl,rfl,gg,by rw[ax,h3];rfl,⟨by omega,by omega⟩,λe he=>?_,?_,(hp10.ext a1).upd Mj.symm,h8.trans (f39.trans fu),h9.trans ((ZL.trans (DQ.trans a1.kp)).l.trans (Kp.r (Kp.upd N7)))⟩
   . rcases da.mp he with he | he
     . exact⟨(h5 e he).1,by have:=(h5 e he).2;omega⟩
     . rw[cw.mp he];refine⟨⟨WX,⟨by dsimp only;omega,by dsimp only;omega⟩,st,?_⟩,kl _⟩;rcases gm with gm | ⟨g1,i',gi⟩
       . exact .inl gm
       . rw[gi]at sm;exact .inr ⟨i',gi,sm,by have:=of_decide_eq_false g1;dsimp only;omega⟩
   . rw[bo];refine zZ h6 λx hx=>?_;obtain⟨y,hy,rfl⟩:=gs.mp hx;have:=(h5 y hy).2;show y.n < n + 1 + u;omega
 . rintro σ H3 ⟨n,v6,v7,v8,v9,_,us,aU,rfl,h1,h2,h3,h4,h5,h6,h7,h8,h9⟩
   ext
   refine q R us aU H3 (fB k1 ep1 nR) h1 (h2.pN λa n=>fB k1 ep1 (bL x1 (fB k2 e2p n))) ⟨by omega,λe he=>(h5 e he).1,h6⟩ h7 (k1.trans ((kR.trans h9).kp nR))
inductive Tr where
 | leaf (a:Addr) (lo hi:Int) (rows:List (Int×List jq))
 | inner (a:Addr) (lo hi:Int) (aX:List Int) (aU:List Nt) (kids:List Tr)
def Tr.a:Tr->Addr
 | .leaf a _ _ _=>a
 | .inner a _ _ _ _ _=>a
mutual
def Tr.adr:Tr->List Addr
 | .leaf a _ _ _=>[a]
 | .inner a _ _ _ _ ks=>a::gE ks
def gE:List Tr->List Addr
 | []=>[]
 | t::ts=>t.adr++gE ts
end
mutual
def bB (a b c:Int):Tr->Nat->Int->Int->Prop
 | .leaf _ l h rows,f,lo,hi=>f=0/\l=lo/\h=hi/\lo < hi/\xm lo hi c rows
 | .inner _ l h aX aU kids,f,lo,hi=>l=lo/\h=hi/\aX.length<=3/\(aX.length:Int) + 1<=b/\∃g,f=g + 1/\N6 lo hi f a aU/\bz a b c kids g lo aX hi
def bz (a b c:Int):List Tr->Nat->Int->List Int->Int->Prop
 | [],_,_,_,_=>False
 | t::ts,g,lo,[],hi=>bB a b c t g lo hi/\ts=[]
 | t::ts,g,lo,q::qs,hi=>bB a b c t g lo q/\bz a b c ts g q qs hi
end
def kE:Key:=.inr "ends"
def kR:Key:=.inr "rows"
def kC:Key:=.inr "kids"
def yU:Key:=.inr "pivots"
def kT:Key:=.inr "tray"
def kN:Key:=.inr "number"
theorem Lx:kE≠kC:=Q1
theorem Ff:yU≠kC:=Q1
theorem N8:kT≠kC:=Q1
def DR:Option Int->List (Key×V)
 | none=>[]
 | some n=>[(kN,.int n)]
mutual
def gQ (K:Frag)(H0 H:Hp)(S:Addr->Option Int):Tr->Prop
 | .leaf a lo hi rows=>∃e R Z us,H a=some (.dK ([(kE,.ref e),(kR,.ref R),(kC,.ref Z)]++DR (S a)))/\new K H0 a/\tupQ K H e=some [.int lo,.int hi]/\new K H0 R/\H R=some (.lst us)/\ao K H0 H (rows.map fk) us/\new K H0 Z/\H Z=some (.lst [])
 | .inner a lo hi aX aU kids=>∃e D Y Z us,H a=some (.dK ([(kE,.ref e),(yU,.ref D),(kT,.ref Y),(kC,.ref Z)]++DR (S a)))/\new K H0 a/\tupQ K H e=some [.int lo,.int hi]/\(new K H0 D/\H D=some (.lst (aX.map V.int)))/\(new K H0 Y/\H Y=some (.lst us)/\ao K H0 H (aU.map Nt.d) us)/\(new K H0 Z/\H Z=some (.lst (kids.map λt=>.ref t.a)))/\cu K H0 H S kids
def cu (K:Frag)(H0 H:Hp)(S:Addr->Option Int):List Tr->Prop
 | []=>True
 | t::ts=>gQ K H0 H S t/\cu K H0 H S ts
end
mutual
theorem gQ.fr {H0 H H':Hp}{S:Addr->Option Int}(k:Fr K H0 H H'):∀{t:Tr},gQ K H0 H S t->gQ K H0 H' S t
 | .leaf a lo hi rows,h=>by
   unfold gQ at h ⊢;obtain⟨e,R,Z,us,h1,n1,h2,n3,h3,h4,n5,h5⟩:=h;exact⟨e,R,Z,us,k.k _ _ n1 h1,n1,k.t _ _ h2,n3,k.k _ _ n3 h3,h4.fr k,n5,k.k _ _ n5 h5⟩
 | .inner a lo hi aX aU kids,h=>by
   unfold gQ at h ⊢;obtain⟨e,D,Y,Z,us,h1,n1,h2,⟨n3,h3⟩,⟨n4,h4,h5⟩,⟨n6,h6⟩,h7⟩:=h;exact⟨e,D,Y,Z,us,k.k _ _ n1 h1,n1,k.t _ _ h2,⟨n3,k.k _ _ n3 h3⟩,⟨n4,k.k _ _ n4 h4,h5.fr k⟩,⟨n6,k.k _ _ n6 h6⟩,cu.fr k h7⟩
theorem cu.fr {H0 H H':Hp}{S:Addr->Option Int}(k:Fr K H0 H H'):∀{ts:List Tr},cu K H0 H S ts->cu K H0 H' S ts
 | [],h=>h
 | t::ts,h=>by
   unfold cu at h ⊢;exact⟨gQ.fr k h.1,cu.fr k h.2⟩
end
mutual
theorem gQ.old {H0 H1 H:Hp}{S:Addr->Option Int}(x:∀a,new K H0 a->new K H1 a):∀{t:Tr},gQ K H0 H S t->gQ K H1 H S t
 | .leaf a lo hi rows,h=>by
   unfold gQ at h ⊢;obtain⟨e,R,Z,us,h1,n1,h2,n3,h3,h4,n5,h5⟩:=h;exact⟨e,R,Z,us,h1,x _ n1,h2,x _ n3,h3,h4.pN x,x _ n5,h5⟩
 | .inner a lo hi aX aU kids,h=>by
   unfold gQ at h ⊢;obtain⟨e,D,Y,Z,us,h1,n1,h2,⟨n3,h3⟩,⟨n4,h4,h5⟩,⟨n6,h6⟩,h7⟩:=h;exact⟨e,D,Y,Z,us,h1,x _ n1,h2,⟨x _ n3,h3⟩,⟨x _ n4,h4,h5.pN x⟩,⟨x _ n6,h6⟩,cu.old x h7⟩
theorem cu.old {H0 H1 H:Hp}{S:Addr->Option Int}(x:∀a,new K H0 a->new K H1 a):∀{ts:List Tr},cu K H0 H S ts->cu K H1 H S ts
 | [],h=>h
 | t::ts,h=>by
   unfold cu at h ⊢;exact⟨gQ.old x h.1,cu.old x h.2⟩
end
mutual
theorem gQ.adr {H0 H:Hp}{S:Addr->Option Int}:∀{t:Tr},gQ K H0 H S t->∀a∈t.adr,new K H0 a/\∃o,H a=some (.dK o)
 | .leaf a lo hi rows,h,b,hb=>by
   unfold gQ at h;unfold Tr.adr at hb;obtain⟨e,R,Z,us,h1,n1,_⟩:=h;rw[cw.mp hb];exact⟨n1,_,h1⟩
 | .inner a lo hi aX aU kids,h,b,hb=>by
   unfold gQ at h;unfold Tr.adr at hb;obtain⟨e,D,Y,Z,us,h1,n1,_,_,_,_,h7⟩:=h;rcases List.mem_cons.mp hb with rfl | hb
   . exact⟨n1,_,h1⟩
   . exact cu.adr h7 b hb
theorem cu.adr {H0 H:Hp}{S:Addr->Option Int}:∀{ts:List Tr},cu K H0 H S ts->∀a∈gE ts,new K H0 a/\∃o,H a=some (.dK o)
 | [],_,b,hb=>by
   unfold gE at hb;cases hb
 | t::ts,h,b,hb=>by
   unfold cu at h;unfold gE at hb;rcases da.mp hb with hb | hb
   . exact gQ.adr h.1 b hb
   . exact cu.adr h.2 b hb
end
theorem cu.snoc {H0 H:Hp}{S:Addr->Option Int}{t:Tr}(g:gQ K H0 H S t):∀{ts:List Tr},cu K H0 H S ts->cu K H0 H S (ts++[t])
 | [],_=>by
   show cu K H0 H S [t];unfold cu;exact⟨g,by unfold cu;trivial⟩
 | u::ts,h=>by
   unfold cu at h;show cu K H0 H S (u::(ts++[t]));unfold cu;exact⟨h.1,cu.snoc g h.2⟩
theorem nO (t:Tr):∀ts:List Tr,gE (ts++[t])=gE ts++t.adr
 | []=>by
   show gE [t]=_;unfold gE;simp[gE]
 | u::ts=>by
   show gE (u::(ts++[t]))=_;unfold gE;rw[nO t ts,km]
theorem Kp.gF {u:HO}(h:H p=some u):Kp K p H (upd H p o):=⟨λq u e n=>by rw[au n];exact e,λb ys e _=>by rw[au (λz=>by rw[z,h]at e;cases e)];exact e⟩
theorem Fr.sA {o0 o':HO}(h0:H0 A=some o0)(hA:H A=some (.dK aA)):Fr K H0 H (upd H A o'):=
 ⟨λa o n h=>by rw[au (λz=>by rw[z]at n;rw[n.1]at h0;cases h0)];exact h,λa xs h=>by
   rw[qv (λz=>by rw[z]at h;unfold tupQ at h;rw[hA]at h;cases h)];exact h⟩
theorem xm.mono {lo jt fF c:Int}{rows:List (Int×List jq)}(h:xm lo hi c rows)(h1:jt<=lo)(h2:hi<=fF):xm jt fF c rows:=⟨h.l,λr hr=>by have:=h.k r hr;omega,h.v,h.up⟩
theorem Pd {hi:Int}:∀{aX:List Int}{lo:Int}{i:Nat},aX.Pairwise (· < ·)->(∀k∈aX,lo < k/\k < hi)->lo < hi->i < aX.length + 1->∃l h,(lo::aX)[i]?=some l/\(aX++[hi])[i]?=some h/\lo<=l/\l < h/\h<=hi
 | [],lo,i,_,_,lh,fF=>by
   obtain rfl:i=0:=by simp at fF;exact fF
   exact⟨lo,hi,rfl,rfl,kl _,lh,kl _⟩
 | q::ps,lo,i,up,Sl,lh,fF=>by
   have hq:=Sl q RR;cases i with
   | zero=>exact⟨lo,q,rfl,rfl,kl _,hq.1,by omega⟩
   | succ i=>
     rw[List.pairwise_cons]at up;obtain⟨l,h,e1,e2,h1,h2,h3⟩:=Pd (aX:=ps) (lo:=q) (i:=i) up.2 (λk hk=>⟨up.1 k hk,(Sl k (by simp[hk])).2⟩) hq.2 (by simp at fF;omega);exact⟨l,h,e1,e2,by omega,h2,h3⟩
theorem eB {i:Nat}{v:V}(h:xs[i]?=some v):kZ xs (0 + (i:Int))=some v:=by
 have hl:=(bc.mp h).1;unfold kZ CM;rw[zr,Fh QR,Fh QR,hV];exact h
theorem Ly {a b c hi:Int}{g:Nat}:∀{ts:List Tr}{aX:List Int}{lo:Int},ts.length=aX.length + 1->(∀(j:Nat) (t:Tr),ts[j]?=some t->∃l,(lo::aX)[j]?=some l/\∃h,(aX++[hi])[j]?=some h/\bB a b c t g l h)->bz a b c ts g lo aX hi
 | [],_,_,h,_=>by simp at h
 | t::ts,[],lo,h,k=>by
   unfold bz;obtain⟨l,e1,h',e2,ok⟩:=k 0 t rfl;cases e1;cases e2;exact⟨ok,ot.mp (by simpa using h)⟩
 | t::ts,q::qs,lo,h,k=>by
   unfold bz;obtain⟨l,e1,h',e2,ok⟩:=k 0 t rfl;cases e1;cases e2;exact⟨ok,Ly (by simpa using h) λj u hj=>k (j + 1) u hj⟩
inductive nQ (K:Frag)(n:Nat)(vs:List V)(H:Hp)(Q:VK)(E9:XK):Prop
 | mk (p rv a b c pl bs eT e0 e1:_) (f:Nat) (_:vs=[.ref p,rv,.int bs,.ref eT,.int f]) (_:3 + f < n) (_:f<=3) (_:Wl H p) (_:ir K H rv a b c pl) (_:DO a b c pl) (_:tupQ K H eT=some [.int e0,.int e1]) (_:(0<=e0/\e0 < e1/\e1<=10 ^ 12)) (_:(0<=bs/\bs<=10 ^ 12)) (_:∀t H',gQ K H H' (λ_=>none) t->bB a b c t f e0 e1->t.adr.Nodup->Wl H' p->Kp K p H H'->Q (.ref t.a) H')
include B in
theorem vL {n:Nat}(F:bQ K "_law_room" "_law_room" bH f fd)(ai:⋯ "_law_draw" 1 ["_law_well_here","_law_many"] (ig K))(cU:⋯ "_law_rows" 3 ["_law_well_here","_law_rule_here","_law_low","_law_high"] (uD K))(cV:⋯ "_law_tray" 4 ["_law_well_here","_law_rule_here","_law_ends","_law_near","_law_floor"] (z8 K))(gZ:⋯ "_law_room" (4 + n) ["_law_well_here","_law_rule_here","_law_base","_law_ends","_law_floor"] (nQ K n)):(!0) (4 + n + 1) f fd ["_law_well_here","_law_rule_here","_law_base","_law_ends","_law_floor"] (nQ K (n + 1)):=by
 exists 0,["_law_well_here","_law_rule_here","_law_base","_law_ends","_law_floor","_law_near","_law_some","_law_many","_law_pivots","_law_lows","_law_highs","_law_room_here"]
 obtain⟨p,rv,a,b,c,pl,bs,eT,lo,hi,f,rfl,hf,f3,hp,⟨R0,rfl,hR0⟩,ro,he,ee,hbs,q⟩:=h;refine aq (rest:=(aj bH).drop 10) (aE (aN HM)) λr10 J10 e10=>?_;refine aq (rest:=(aj bH).drop 9) (ak (ES hr.units HM cJ (qe (ck [ "_law_k","_law_well_here","_law_rule_here","_law_base","_law_floor","_law_lows","_law_highs" ] [none,some 0,some 1,some 2,some 4,some 9,some 10]) rfl (SY (ny rfl B.range (am (aa (t6 B.len O8) ah)))) (λ_ _ _ _=>(gn 0 nk)) (λ_ _ _ _=>c6) (λ_ _ _ _=>(qp gZ (hr.mono QR) rfl (aa cF (aa fC (aa gB (aa (Tc (uU K (am (aa (tV (uw (EH K)) tZ bg (λ_ _=>rfl)) (aa (tV (uw (EH K)) Cm bg (λ_ _=>rfl)) ah))))) (aa (cA (mA fW) nH ei) ah))))))))) J10) λr9 J9 e9=>?_;refine aq (rest:=(aj bH).drop 8) (ak (ss 11 nk (Dk (l7 gB (l7 yL (l7 (qp cV (hr.mono QR) rfl (aa bg (aa cF (aa gB (aa tZ (aa nH ah)))))) Rz))))) J9) λr8 J8 e8=>?_;refine aq (rest:=(aj bH).drop 7) (ak (sset (i:=10) nk rfl (Or.inr rfl) (cA dg yL (jx (aa (iq gB) ah)))) J8) λr7 J7 e7=>?_;refine aq (rest:=(aj bH).drop 6) (ak (sset (i:=9) nk rfl (Or.inr rfl) (cA dg (jx (aa (iq gB) ah)) yL)) J7) λr6 J6 e6=>?_;refine aq (rest:=(aj bH).drop 5) (ak (ss 8 nk (j0 rfl rfl B.sorted rfl B.set (aa (qe (ck [ "_law_k","_law_some","_law_well_here" ] [none,some 6,some 0]) rfl (SY (ny rfl B.range (am (aa HL ah)))) (λ_ _ _ _=>(gn 0 nk)) (λ_ _ _ _=>c6) (λ_ _ _ _=>(tV (uw (EH K)) cF (qp ai (hr.mono QR) rfl (aa fC (aa (bW (VQ (C3 K)) rfl B.len CT (aa cF ah)) ah))) (λ_ _=>rfl)))) ah))) J6) λr5 J5 e5=>?_;refine aq (rest:=(aj bH).drop 4) (ak (ss 7 nk (cA (mC fK) (qp ai (hr.mono QR) rfl (aa bg (aa (bW (rK rfl) rfl B.min CU (aa (iq cF) (aa ei ah))) ah))) (dI rO rfl B.int rP (aa (fE (Kv (dt (gL _ 64) hr.units)) Cm (jx ah) (aF _)) ah)))) J5) λr4 J4 e4=>?_;refine aq (rest:=(aj bH).drop 3) (ak (sset (i:=6) nk rfl (Or.inr rfl) (qe (ck [ "_law_key","_law_ends" ] [none,some 3]) rfl (Zh (zw rfl B.range (am (aa fC (aa (cA (mA bw) fC ei) ah))))) (λ_ _ _ _=>(gn 0 nk)) (λ_ _ _ _=>(zC (RK (C1 (om (mA iN)) (om (mA iN)) (jm (Le K cF)) cG (jm (Le K cF)))))) (λ_ _ _ _=>bg))) J4) λr3 J3 e3=>?_;refine aq (rest:=(aj bH).drop 2) (ak (gJ (cM (cg (om fq) Wc (jm ei) (aF _))) (aE (aN (Dk (l7 gB (l7 (qp cU (hr.mono QR) rfl (aa bg (aa cF (aa (iq tZ) (aa (iq tZ) ah))))) (l7 (jx ah) Rz)))))) b8) J3) λr2 J2 e2=>?_;refine aq (rest:=(aj bH).drop 1) (U5 (gJ (cM (cg (om (mA OE)) (jm (iq tZ)) (jm (iq tZ)) (aF _))) (aE (ss 5 nk (oR (aa (iq gB) (aa (cA (mA bw) (iq gB) ei) ah))))) b8) J2) λr1 J1 e1=>?_;refine⟨_,(ak (ss 5 nk (oR (aa (bW (Gp rfl) rfl B.max QV (aa (iq gB) (aa fC ah))) (aa (bW (rK rfl) rfl B.min CU (aa (iq gB) (aa (cA (mA bw) fC ei) ah))) ah)))) J1),?_⟩;simp_arith [aQ he];intro N0 nN0;have x1:=bX (.tup [V.int (if bs > lo then bs else lo),V.int (if bs + 24 < hi then bs + 24 else hi)]) nN0;have ZM:tupQ K (upd H N0 (.tup [V.int (if bs > lo then bs else lo),V.int (if bs + 24 < hi then bs + 24 else hi)])) N0=_:=aK;have qQ:=hp.ext x1;have Xf:=x1.tup he;have hR1:=x1.tup hR0;generalize eG1:upd H N0 (.tup [V.int (if bs > lo then bs else lo),V.int (if bs + 24 < hi then bs + 24 else hi)])=G1 at *;rw[e1]
 ext
 obtain⟨J,eJ⟩:∃J:St->Hp->Prop,J=λσ G=>∃N n0 n1,σ=[some (V.ref p),some (V.ref R0),some (V.int bs),some (V.ref eT),some (V.int f),some (V.ref N),none,none,none,none,none,none]/\tupQ K G N=some [.int n0,.int n1]/\lo<=n0/\n0 < n1/\n1<=hi/\n1<=n0 + 24/\Ext K H G:=⟨_,rfl⟩
 refine⟨J,?_,?_⟩
 . simp_arith [aQ ZM,aQ Xf];rw[eJ];refine ju (λc1 T nT=>?_) (λc1=>?_)
   . exact⟨T,lo,lo + 1,rfl,aK,by omega,by omega,by omega,by omega,x1.trans (Ext.new nT)⟩
   . refine⟨N0,_,_,rfl,ZM,?_,?_,?_,?_,x1⟩ <;> (repeat' split) <;> (repeat' split at c1) <;> omega
 intro σ G2 hJ;rw[eJ]at hJ;obtain⟨N,n0,n1,rfl,hN,l0,l1,l2,l3,x2⟩:=hJ;clear eJ J ZM qQ Xf hR1 x1 nN0 eG1;have lg:=hp.ext x2;have Hs:=x2.tup he;have Si:=x2.tup hR0;rw[e2]
 ext
 refine ju (λc0=>?_) (λc0=>?_)
 . intro A nA;have xA:=bX (.dK []) nA;have hA:upd G2 A (.dK []) A=some (.dK []):=af;have kb:∀F,oO K p A (upd G2 A (.dK [])) F->Kp K p H F:=λF k=>x2.kp.trans (k.kp nA);have Wm:=lg.ext xA;have Xz:=xA.tup Hs;have XA:=xA.tup Si;have XC:=xA.tup hN;have Sm:A≠p:=lg.ne nA;obtain⟨yA,epA⟩:=Wm.lst;have oA:∀a,new K (upd G2 A (.dK [])) a->new K H a:=λa n=>bL (x2.trans xA) n;generalize upd G2 A (.dK [])=GA at *;refine⟨_,aQ XC,_,rfl,_,aQ XC,_,rfl,p,_,a,b,c,pl,n0,n1,rfl,Wm,⟨R0,rfl,XA⟩,ro,by omega,by omega,by omega,by omega,λD us rows H1 nD hD al rk AA k3 Z nZ=>?_⟩;have xZ:=bX (.lst []) nZ;have N9:=k3.keep A _ hA Sm;have f3:=(Fr.kp (K:=K) (H0:=GA) epA epA k3).trans (Fr.ext xZ);have XD:=xZ.at N9;have f4:=f3.trans (Fr.sA (K:=K) (o':=.dK [(kE,.ref eT),(kR,.ref D),(kC,.ref Z)]) hA XD);have dA:D≠A:=λz=>by rw[z]at nD;rw[nD.1]at hA;cases hA
   have zA:Z≠A:=λz=>by rw[z]at nZ;rw[nZ.1]at N9;cases N9
   refine⟨XD,q (.leaf A lo hi rows) _ ?_ ?_ ?_ ((AA.ext xZ).upd Sm.symm) ?_⟩
   . unfold gQ;obtain⟨y3,epA'⟩:=AA.lst;refine⟨eT,D,Z,us,af,bL x2 nA,f4.t _ _ Xz,oA D nD,by rw[au dA];exact xZ.at hD,?_,oA Z (fB k3 epA' nZ),by rw[au zA];exact af⟩;exact(al.fr ((Fr.ext xZ).trans (Fr.sA hA XD))).pN oA
   . unfold bB;exact⟨by omega,rfl,rfl,ee.2.1,rk.mono l0 l2⟩
   . unfold Tr.adr;simp
   . exact kb _ (k3.l.trans (xZ.OO.trans (Kp.r (Kp.gF XD))))
 rw[e3]
 ext
 refine⟨by omega,by omega,by omega,by omega,λS nS=>?_⟩;refine lW (λi acc σ G=>NF λ(v0:Option V) (ks:List Int)=>V6 (uy σ [v0,some (V.ref eT)]) (acc=ks.map V.int) (ks.length<=i) (∀k∈ks,lo < k/\k < hi) (G S=some (.lst acc)) (Kp K S (upd G2 S (.lst [])) G)) ⟨_,[],rfl,rfl,ar _,λ_ h=>absurd h List.not_mem_nil,af,Kp.refl⟩ ?_ ?_
 . rintro i acc σ G3 fF ⟨v0,ks,rfl,rfl,lk,hk,hS,kS⟩;have h25:i < 25:=QR
   simp_arith [aQ (((kS.ext nS).tup Hs))];refine ju (λc1=>ju (λc2=>?_) (λc2=>⟨_,ks,rfl,rfl,by omega,hk,hS,kS⟩)) (λc1=>⟨_,ks,rfl,rfl,by omega,hk,hS,kS⟩);exact⟨hS,by rw[ab];exact dt lk QR,_,ks++[bs + i],rfl,by rw[bo];rfl,by rw[ax];simp;omega,λk Cg=>(by rcases da.mp Cg with h | h;exact hk k h;rw[cw.mp h];omega),trivial,kS.trans (Kp.upd hS)⟩
 rintro acc σ G3 ⟨v0,ks,rfl,rfl,lk,hk,hS,kS⟩;have x3:=x2.trans (kS.ext nS);have AA:=hp.ext x3;have SS:=x3.tup he;have ZN:=x3.tup hR0;have hN3:=(kS.ext nS).tup hN;clear kS lg Hs Si hN;rw[e4];simp_arith [aQ ZN];refine⟨p,_,rfl,AA,by have:=ro.b;split <;> omega,by have:=ro.b;split <;> omega,λm H4 m0 m1 xh k4 E1 nE1=>?_⟩;have hm:m<=3/\m + 1<=b:=by have:=ro.b;split at m1 <;> omega
 have z4:=bX (.lst []) nE1;have ZO:S≠p:=λz=>by obtain⟨y,e⟩:=(hp.ext x2).lst;rw[z]at nS;rw[nS.1]at e;cases e
 have XE:=z4.at (k4.keep S _ hS ZO);obtain⟨mm,emm,h00,h01,h02⟩:∃mm:Int,(m * if (!(ks.map V.int).isEmpty)=true then 1 else 0)=mm/\0<=mm/\mm<=m/\(0 < mm->0 < ks.length):=by
   refine⟨_,rfl,?_⟩;cases ks with
   | nil=>simp;omega
   | cons k r=>simp;omega
 refine⟨_,aR.of XE,aR.of af,m,rfl,.inl QR,?_⟩;rw[emm];have Wn:=k4.trans z4.kp;have xj:=xh.ext z4;obtain⟨y3,ep3⟩:=AA.lst;have he5:=Wn.tup ep3 SS;have hR5:=Wn.tup ep3 ZN;have hN5:=Wn.tup ep3 hN3;have K5:Kp K p H (upd H4 E1 (.lst [])):=x3.kp.trans Wn;clear z4 SS ZN hN3 hS Wn;generalize upd H4 E1 (.lst [])=G5 at *;rw[e5]
 ext
 refine⟨by omega,by omega,λD nD=>?_⟩;have DN:D≠p:=xj.ne nD;have ZP:S≠D:=aH XE nD.1;have hpD:=xj.ext (bX (.lst []) nD);refine lW (λi acc σ G=>NF λ(v0:Option V) (ps:List Int)=>Zo (uy σ [v0,some (V.ref S),some (V.ref p)]) (acc=ps.map V.int) (ps.length=i) (∀k∈ps,lo < k/\k < hi) (G D=some (.lst acc)) (Wl G p) (oO K p D (upd G5 D (.lst [])) G)) ⟨_,[],rfl,rfl,rfl,λ_ h=>absurd h List.not_mem_nil,af,hpD,oO.refl⟩ ?_ ?_
 . rintro i acc σ G6 fF ⟨v0,ps,rfl,rfl,lp,hps,hD,hp6,k6⟩;have hS6:=k6.keep S _ ((bX (.lst []) nD).at XE) ZO ZP;have lk0:=h02 QR;simp_arith [aI hS6];refine⟨p,_,rfl,hp6,by rw[ab];omega,by rw[ab];omega,λr H7 r0 r1 uB k7=>⟨r,rfl,_,aI (k7.keep S _ hS6 ZO),?_⟩⟩;obtain⟨x,hx,ex⟩:=Wi ks r0 (by rw[ab]at r1;exact r1);have hD7:=k7.keep D _ hD DN;exact⟨_,ex,hD7,by rw[ab];omega,_,ps++[x],rfl,by rw[bo];rfl,by rw[ax,lp];rfl,λk Cg=>(by rcases da.mp Cg with h | h;exact hps k h;rw[cw.mp h];exact hk x hx),trivial,uB.upd DN.symm,k6.trans (k7.l.trans (Kp.r (Kp.upd hD7)))⟩
 rintro acc σ G6 ⟨v0,ps,rfl,rfl,lp,hps,hD,hp6,k6⟩
 ext
 refine⟨ps,aR.of hD,by omega,λPv aX nPv up mem lpv=>?_⟩;have K6:Kp K p H G6:=K5.trans (k6.kp nD);obtain⟨yp,ep⟩:=hp.lst;obtain⟨yp6,ep6⟩:=hp6.lst;have lpi:aX.length<=3/\(aX.length:Int) + 1<=b:=QR
 have Sl:∀k∈aX,lo < k/\k < hi:=λk Cg=>hps k ((mem k).mp Cg);have hN6:=(k6.kp nD).tup (Wl.lst xj).choose_spec hN5;have he6:=K6.tup ep he;have Wk:=K6.tup ep hR0;have Wo:Pv≠p:=hp6.ne nPv;have z6:=bX (.lst (aX.map V.int)) nPv;have XF:=af (H:=G6) (a:=Pv) (o:=.lst (aX.map V.int));have ZQ:new K H Pv:=fB K6 ep6 nPv;have hN7:=z6.tup hN6;have Pc:=z6.tup he6;have Sj:=z6.tup Wk;have uB:=hp6.ext z6;have K7:=K6.trans z6.kp;clear hN6 he6 Wk he5 hR5 hN5 XE k6 hD hpD mem hps lpv K5 xj;generalize upd G6 Pv (.lst (aX.map V.int))=G7 at *;rw[e6];simp_arith [aQ Pc];intro t1' m1';have w1:=bX (.lst [V.int lo]) m1';refine⟨_,w1.at XF,by rw[ab];omega,λLw nLw=>?_⟩;have Uv:Lw≠p:=(uB.ext w1).ne nLw;have w2:=w1.trans (Ext.new (o:=.lst (V.int lo::aX.map V.int)) nLw);have hLw:upd (upd G7 t1' (.lst [V.int lo])) Lw (.lst (V.int lo::aX.map V.int)) Lw=some (.lst ((lo::aX).map V.int)):=af;have he8:=w2.tup Pc;have hP8:=w2.at XF;generalize upd (upd G7 t1' (.lst [V.int lo])) Lw (.lst (V.int lo::aX.map V.int))=G8 at *;rw[e7];simp_arith [aQ he8];intro t2' m2';have w3:=bX (.lst [V.int hi]) m2';refine⟨_,w3.at hP8,by rw[ab];omega,λUp nUp=>?_⟩;have neU:Up≠p:=(uB.ext (w2.trans w3)).ne nUp;have w4:=w2.trans (w3.trans (Ext.new (o:=.lst (aX.map V.int++[V.int hi])) nUp));have hUp:upd (upd G8 t2' (.lst [V.int hi])) Up (.lst (aX.map V.int++[V.int hi])) Up=some (.lst ((aX++[hi]).map V.int)):=by rw[af,bo];rfl
 have hL9:=(w3.trans (Ext.new (o:=.lst (aX.map V.int++[V.int hi])) nUp)).at hLw;have hP9:=w4.at XF;have he9:=w4.tup Pc;have hR9:=w4.tup Sj;have hN9:=w4.tup hN7;have DP:=uB.ext w4;have K9:=K7.trans w4.kp;clear w1 w2 w3 w4 he8 hP8 hLw XF Pc Sj hN7 uB K7;generalize upd (upd G8 t2' (.lst [V.int hi])) Up (.lst (aX.map V.int++[V.int hi]))=G9 at *;rw[e8]
 ext
 intro A nA;have xA:=bX (.dK []) nA;have hA:upd G9 A (.dK []) A=some (.dK []):=af;have kb:∀F,oO K p A (upd G9 A (.dK [])) F->Kp K p H F:=λF k=>K9.trans (k.kp nA);have Sm:A≠p:=DP.ne nA;obtain⟨y9,ep9⟩:=DP.lst;have nAH:new K H A:=fB K9 ep9 nA;have oA:∀a,new K (upd G9 A (.dK [])) a->new K H a:=λa n=>fB K9 ep9 (bL xA n);have Wm:=DP.ext xA;have Xz:=xA.tup he9;have XA:=xA.tup hR9;have XC:=xA.tup hN9;have hLA:=xA.at hL9;have hUA:=xA.at hUp;have hPA:=xA.at hP9;obtain⟨yA,epA⟩:=Wm.lst;generalize upd G9 A (.dK [])=GA at *;obtain⟨g,rfl⟩:∃g,f=g + 1:=⟨f - 1,by omega⟩
 refine⟨p,_,a,b,c,pl,eT,lo,hi,N,n0,n1,((g + 1:Nat):Int),rfl,Wm,⟨R0,rfl,XA⟩,ro,Xz,XC,l0,l1,l2,by omega,by omega,by omega,by omega,by omega,λY us aU H1 nY hY al tk hp10 DQ=>?_⟩;have N9:=DQ.keep A _ hA Sm;refine⟨N9,?_⟩;have f10:=(Fr.kp (K:=K) (H0:=GA) epA epA DQ).trans (Fr.sA (K:=K) (o':=.dK [(kE,.ref eT),(yU,.ref Pv),(kT,.ref Y)]) hA N9);have kA:oO K p A GA (upd H1 A (.dK [(kE,.ref eT),(yU,.ref Pv),(kT,.ref Y)])):=DQ.l.trans (Kp.r (Kp.gF N9));have neY:Y≠p:=λz=>by rw[z]at nY;rw[nY.1]at epA;cases epA
 have yA':Y≠A:=λz=>by rw[z]at nY;rw[nY.1]at hA;cases hA
 have hY1:upd H1 A (.dK [(kE,.ref eT),(yU,.ref Pv),(kT,.ref Y)]) Y=some (.lst us):=by rw[au yA'];exact hY
 have ZR:=al.fr (Fr.sA (K:=K) (o':=.dK [(kE,.ref eT),(yU,.ref Pv),(kT,.ref Y)]) hA N9);have Wq:upd H1 A (.dK [(kE,.ref eT),(yU,.ref Pv),(kT,.ref Y)]) A=some (.dK [(kE,.ref eT),(yU,.ref Pv),(kT,.ref Y)]):=af;have XG:=hp10.upd (o:=.dK [(kE,.ref eT),(yU,.ref Pv),(kT,.ref Y)]) Sm.symm;change r9 _ _ (upd H1 A (.dK [(kE,.ref eT),(yU,.ref Pv),(kT,.ref Y)]));have neg:∀{a:Addr}{o:HO},G9 a=some o->a≠A:=λh z=>by rw[z]at h;rw[nA.1]at h;cases h
 have nP:Pv≠A:=neg hP9;have nL:Lw≠A:=neg hL9;have nU:Up≠A:=neg hUp;have ob:∀a,new K (upd H1 A (.dK [(kE,.ref eT),(yU,.ref Pv),(kT,.ref Y)])) a->new K GA a:=λa n=>uC kA XG.lst.choose_spec Wq n;generalize upd H1 A (.dK [(kE,.ref eT),(yU,.ref Pv),(kT,.ref Y)])=GB at *;clear DQ N9 hY al hp10;have ZS:=kA.keep Lw _ hLA Uv nL;have hUB:=kA.keep Up _ hUA neU nU;have hPB:=kA.keep Pv _ hPA Wo nP;obtain⟨yB,epB⟩:=XG.lst;rw[e9]
 ext
 refine⟨_,aI ZS,by rw[ab,List.length_cons];omega,by rw[ab,List.length_cons];omega,λZ nZ=>?_⟩;have xZ:=bX (.lst []) nZ;have neZ:Z≠p:=XG.ne nZ;have nZA:A≠Z:=aH Wq nZ.1;have ZT:upd GB Z (.lst []) Z=some (.lst []):=af;have hpZ:=XG.ext xZ;have hLZ:=xZ.at ZS;have ZU:=xZ.at Wq;have hUZ:=xZ.at hUB;have epZ:=xZ.at epB;have nLZ:Lw≠Z:=aH ZS nZ.1;have nUZ:Up≠Z:=aH hUB nZ.1;have kz:∀F,oO K p Z (upd GB Z (.lst [])) F->Kp K p GB F:=λF k=>k.kp nZ;have oz:∀a,new K (upd GB Z (.lst [])) a->new K GB a:=λa n=>bL xZ n;have hRZ:=xZ.tup (f10.t _ _ XA);generalize upd GB Z (.lst [])=GZ at *;refine lW (λi acc σ G=>NF λ(v0:Option V) (ts:List Tr)=>Sd (uy σ [v0,some (V.ref p),some (V.ref R0),some (V.int bs),some (V.int ((g + 1:Nat):Int)),some (V.ref Lw),some (V.ref Up)]) (acc=ts.map (λt=>.ref t.a)) (ts.length=i) ((∀j t,ts[j]?=some t->∃l h,(lo::aX)[j]?=some l/\(aX++[hi])[j]?=some h/\bB a b c t g l h)) (cu K GZ G (λ_=>none) ts) ((gE ts).Nodup) (G Z=some (.lst acc)) (Wl G p) (Fr K GZ GZ G) (oO K p Z GZ G)) ⟨_,[],rfl,rfl,rfl,λj t (h:([]:List Tr)[j]?=some t)=>absurd h (by rw[List.getElem?_nil];intro h;cases h),by unfold cu;trivial,by unfold gE;exact .nil,ZT,hpZ,Fr.ext Ext.refl,oO.refl⟩ ?_ ?_
 . rintro i acc σ G fF ⟨v0,ts,rfl,rfl,lt,tk',la,nd,hZ,hpG,fG,kG⟩;have hiL:i < aX.length + 1:=by rw[ab,List.length_cons]at fF;omega
   have hLG:=kG.keep Lw _ hLZ Uv nLZ;have hUG:=kG.keep Up _ hUZ neU nUZ;simp_arith [aI hLG,aI hUG];obtain⟨l,h,el,eh,lq,oM,Bp⟩:=Pd up Sl ee.2.1 hiL;refine⟨_,eB (xs:=(lo::aX).map V.int) (by rw[bb,el];rfl),_,eB (by rw[bb,eh];rfl),λT nT=>?_⟩;have xT:=bX (.tup [V.int l,V.int h]) nT;obtain⟨yG,epG⟩:=hpG.lst;refine⟨p,_,a,b,c,pl,bs,T,l,h,g,by simp,by omega,by omega,hpG.ext xT,⟨R0,rfl,xT.tup (fG.t _ _ hRZ)⟩,ro,aK,by omega,hbs,λt H4 lt4 Wj nd4 xh k4=>?_⟩;have fT:=(Fr.ext (K:=K) (H0:=GZ) xT).trans (Fr.kp (K:=K) epZ (xT.at epG) k4);have Te:=k4.keep Z _ (xT.at hZ) neZ;have fU:=fT.trans (Fr.kp (K:=K) ZT Te (Kp.upd (o:=.lst (ts.map (λt=>V.ref t.a)++[V.ref t.a])) Te));have oT:∀a,new K (upd G T (.tup [V.int l,V.int h])) a->new K GZ a:=λa n=>uC kG epG hZ (bL xT n);refine⟨Te,by rw[ab];omega,_,ts++[t],rfl,by rw[bo];rfl,by rw[ax,lt];rfl,λj u hj=>?_,(cu.snoc ((lt4.old oT).fr (Fr.kp (K:=K) ZT Te (Kp.upd Te))) (la.fr fU)),?_,trivial,xh.upd neZ.symm,fG.trans fU,kG.trans ((xT.kp.trans k4).l.trans (Kp.r (Kp.upd Te)))⟩
   . by_cases SR:j < ts.length
     . rw[ky SR]at hj;obtain⟨l',h',e1,e2,e3⟩:=tk' j u hj;exact⟨l',e1,h',e2,e3⟩
     . rw[kf QR]at hj;have hj0:j - ts.length=0:=by
         have:=(bc.mp hj).1;simp at this;omega
       rw[hj0]at hj;cases hj;obtain rfl:j=i:=QR
       exact⟨l,el,h,eh,Wj⟩
   . rw[nO,oP];refine⟨nd,nd4,λx hx y hy z=>?_⟩;subst z;obtain⟨_,o,e1⟩:=la.adr x hx;have n2:=(lt4.adr x hy).1;have:=xT.at e1;rw[n2.1]at this;cases this
 rintro acc σ G ⟨v0,ts,rfl,rfl,lt,tk',la,nd,hZ,hpG,fG,kG⟩;have Tf:=kz G kG;have Tg:=Tf.keep A _ Wq Sm;have hYG:=Tf.keep Y _ hY1 neY;have hPG:=Tf.keep Pv _ hPB Wo;refine⟨_,.inl ⟨_,kC,Tg,rfl,(by show 3 < sizeLine;decide),rfl⟩,?_⟩;rw[show putK [(kE,V.ref eT),(yU,V.ref Pv),(kT,V.ref Y)] kC (V.ref Z)=[(kE,V.ref eT),(yU,V.ref Pv),(kT,V.ref Y),(kC,V.ref Z)] from u9 (by simp[Lx,Ff,N8])];rw[e10]
 ext
 have fA:=Fr.sA (K:=K) (H0:=GB) (o':=.dK [(kE,V.ref eT),(yU,V.ref Pv),(kT,V.ref Y),(kC,V.ref Z)]) Wq Tg;refine q (.inner A lo hi aX aU ts) _ ?_ ?_ ?_ (hpG.upd Sm.symm) (kb _ (kA.trans (Tf.l.trans (Kp.r (Kp.gF Tg)))))
 . have oB:∀a,new K GB a->new K H a:=λa n=>oA a (ob a n);have nZH:new K H Z:=oB Z nZ;have fBG:=Fr.kp (K:=K) (H0:=GB) epB epB Tf;have FA:=fBG.trans fA;have neo:∀{a:Addr}{xs:List V},G a=some (.lst xs)->a≠A:=λh z=>by rw[z,Tg]at h;cases h
   have ZV:∀{a:Addr}{xs:List V},G a=some (.lst xs)->upd G A (.dK [(kE,V.ref eT),(yU,V.ref Pv),(kT,V.ref Y),(kC,V.ref Z)]) a=some (.lst xs):=λh=>by rw[au (neo h)];exact h
   have lZ:cu K GZ (upd G A (.dK [(kE,V.ref eT),(yU,V.ref Pv),(kT,V.ref Y),(kC,V.ref Z)])) (λ_=>none) ts:=la.fr (Fr.sA ZU Tg);unfold gQ;exact⟨eT,Pv,Y,Z,us,af,nAH,FA.t _ _ (f10.t _ _ Xz),⟨ZQ,ZV hPG⟩,⟨oA Y nY,ZV hYG,((ZR.fr (Fr.kp (K:=K) epA epB Tf)).fr (Fr.sA hA Tg)).pN oA⟩,⟨nZH,ZV hZ⟩,lZ.old λa n=>oB a (oz a n)⟩
 . unfold bB;refine⟨rfl,rfl,lpi.1,lpi.2,g,rfl,tk,Ly (by rw[lt,ab,List.length_cons];omega) λj t hj=>?_⟩;obtain⟨l',h',e1,e2,e3⟩:=tk' j t hj;exact⟨l',e1,h',e2,e3⟩
 . unfold Tr.adr;rw[List.nodup_cons];refine⟨λhm=>?_,nd⟩;have:=(la.adr A hm).1;rw[this.1]at ZU;cases ZU
theorem vO :(!0) 4 f fd ["_law_well_here","_law_rule_here","_law_base","_law_ends","_law_floor"] (nQ K 0):=
 ⟨λ_ _ _ _ h=>by cases h;omega,λ_ _ _ _ _ _ _ _ _ _ _ _ _ h=>by cases h;omega⟩
include B in
theorem pe {f:Addr}{fd:FuncData}(F:bQ K "_law_room" "_law_room" bH f fd)(ai:⋯ "_law_draw" 1 ["_law_well_here","_law_many"] (ig K))(cU:⋯ "_law_rows" 3 ["_law_well_here","_law_rule_here","_law_low","_law_high"] (uD K))(cV:⋯ "_law_tray" 4 ["_law_well_here","_law_rule_here","_law_ends","_law_near","_law_floor"] (z8 K))(b:Binds K fd ["_law_well_here","_law_rule_here","_law_base","_law_ends","_law_floor"] [])(kp:keepIn K (.ref f)=true)(m:mg "_law_room"=some (.ref f)):∀n:Nat,(!0) (4 + n) f fd ["_law_well_here","_law_rule_here","_law_base","_law_ends","_law_floor"] (nQ K n)
 | 0=>vO
 | n + 1=>vL B F ai cU cV ⟨f,fd,pe F ai cU cV b kp m n,b,kp,m⟩
include B in
theorem Ab (F:bQ K "_law_room" "_law_room" bH f fd)(ai:⋯ "_law_draw" 1 ["_law_well_here","_law_many"] (ig K))(cU:⋯ "_law_rows" 3 ["_law_well_here","_law_rule_here","_law_low","_law_high"] (uD K))(cV:⋯ "_law_tray" 4 ["_law_well_here","_law_rule_here","_law_ends","_law_near","_law_floor"] (z8 K))(b:Binds K fd ["_law_well_here","_law_rule_here","_law_base","_law_ends","_law_floor"] [])(kp:keepIn K (.ref f)=true)(m:mg "_law_room"=some (.ref f)):(!0) 11 f fd ["_law_well_here","_law_rule_here","_law_base","_law_ends","_law_floor"] (nQ K 7):=pe B F ai cU cV b kp m 7
mutual
def Tr.pre:Tr->List Tr
 | .leaf a lo hi rows=>[.leaf a lo hi rows]
 | .inner a lo hi aX aU ks=>.inner a lo hi aX aU ks::c8 ks
def c8:List Tr->List Tr
 | []=>[]
 | t::ts=>t.pre++c8 ts
end
mutual
theorem dj:∀t:Tr,t.adr=t.pre.map Tr.a
 | .leaf a lo hi rows=>by unfold Tr.adr Tr.pre;rfl
 | .inner a lo hi aX aU ks=>by unfold Tr.adr Tr.pre;rw[List.map_cons,jP ks];rfl
theorem jP:∀ts:List Tr,gE ts=(c8 ts).map Tr.a
 | []=>by unfold gE c8;rfl
 | t::ts=>by unfold gE c8;rw[bo,dj t,jP ts]
end
theorem qR (us:List Tr):∀ts:List Tr,c8 (ts++us)=c8 ts++c8 us
 | []=>by show c8 us=_;unfold c8;simp[c8]
 | t::ts=>by
   show c8 (t::(ts++us))=_;unfold c8;rw[qR us ts,km];cases us <;> simp[c8]
def Tr.kids:Tr->List Tr
 | .leaf _ _ _ _=>[]
 | .inner _ _ _ _ _ ks=>ks
theorem g7 (t:Tr):t.pre=t::c8 t.kids:=by
 cases t <;> (unfold Tr.pre Tr.kids) <;> first | rfl | (unfold c8;rfl)
theorem Wr:kE≠kR:=Q1
theorem Pe:kE≠yU:=Q1
theorem Ws:kE≠kT:=Q1
theorem HY:kE≠kN:=Q1
theorem ZW:kR≠kC:=Q1
theorem Sn:kR≠kN:=Q1
theorem Pf:yU≠kT:=Q1
theorem Lz:yU≠kN:=Q1
theorem So:kT≠kN:=Q1
theorem HZ:kC≠kN:=Q1
theorem vN {k k':Key}{v:V}{r:List (Key×V)}(h:k≠k'):dO ((k,v)::r) k'=dO r k':=dQ h
theorem vP {k:Key}{v:V}{r:List (Key×V)}:dO ((k,v)::r) k=some v:=dP rfl
theorem vQ {t:Tr}(h:gQ K H0 H S t):∃aA Z,H t.a=some (.dK aA)/\dO aA kC=some (.ref Z)/\H Z=some (.lst (t.kids.map λt=>.ref t.a))/\cu K H0 H S t.kids:=by
 cases t with
 | leaf a lo hi rows=>
   unfold gQ at h;obtain⟨e,R,Z,us,h1,n1,h2,n3,h3,h4,n5,h5⟩:=h;exact⟨_,Z,h1,(vN Lx).trans ((vN ZW).trans vP),h5,by unfold Tr.kids cu;trivial⟩
 | inner a lo hi aX aU ks=>
   unfold gQ at h;obtain⟨e,D,Y,Z,us,h1,n1,h2,⟨n3,h3⟩,⟨n4,h4,h5⟩,⟨n6,h6⟩,h7⟩:=h;exact⟨_,Z,h1,(vN Lx).trans ((vN Ff).trans ((vN N8).trans vP)),h6,h7⟩
theorem jQ {a:Addr}{v:V}(e:H a=some (.dK aA))(h:dO aA (.inr x)=some v):tT H a (.str x) (some v):=h ▸ tT.k (k:=.inr x) e
mutual
def Tr.ht:Tr->Nat
 | .leaf _ _ _ _=>0
 | .inner _ _ _ _ _ ks=>Iv ks + 1
def Iv:List Tr->Nat
 | []=>0
 | t::ts=>max t.ht (Iv ts)
end
theorem Fg:∀{ts:List Tr}{t:Tr},t∈ts->t.ht<=Iv ts
 | u::ts,t,h=>by
   unfold Iv;rcases List.mem_cons.mp h with rfl | h
   . omega
   . have:=Fg h;omega
theorem cu.mem {H0 H:Hp}{S:Addr->Option Int}:∀{ts:List Tr}{t:Tr},cu K H0 H S ts->t∈ts->gQ K H0 H S t
 | u::ts,t,h,hm=>by
   unfold cu at h;rcases List.mem_cons.mp hm with rfl | hm
   . exact h.1
   . exact cu.mem h.2 hm
inductive sC (K:Frag)(n:Nat)(vs:List V)(H:Hp)(Q:VK)(E9:XK):Prop
 | mk (t H0 S:_) (_:vs=[.ref t.a]) (_:t.ht < n) (_:t.adr.length<=1000) (_:gQ K H0 H S t) (_:∀D H',new K H D->H' D=some (.lst (t.adr.map V.ref))->Ext K H H'->Q (.ref D) H')
include B in
theorem xq {n:Nat}(F:bQ K "_law_all" "_law_all" j6 f fd)(iZ:⋯ "_law_all" n ["_law_room_here"] (sC K n)):(!0) (n + 1) f fd ["_law_room_here"] (sC K (n + 1)):=by
 exists 0,["_law_room_here","_law_found","_law_one"]
 obtain⟨t,H0,S,rfl,ht,hl,la,q⟩:=h;refine⟨_,(ak (ss 1 nk (jx (aa bg ah))) (ak (lT PassesOwn.never rfl (j5 (bU (jm (wL (fz hr.units cG (jm cJ) (λ_ _=>rfl)))))) (gn 2 nk) (aE (ss 1 nk (cA dg cF (qp iZ (hr.mono QR) rfl (aa fC ah)))))) (aE (aN cF)))),?_⟩
 ext
 intro D nD;have x1:=bX (.lst [V.ref t.a]) nD;obtain⟨aA,Z,e1,e2,e3,lk⟩:=vQ (la.fr (Fr.ext x1));have hD:upd H D (.lst [V.ref t.a]) D=some (.lst ([t.a].map V.ref)):=af;generalize upd H D (.lst [V.ref t.a])=G at *;refine⟨_,jQ e1 e2,Z,rfl,⟨_,aR.of e3⟩,?_⟩;have pk:=g7 t;have ZX:=dj t;rw[pk,List.map_cons,<- jP]at ZX;refine dW (xs:=t.kids.map λt=>.ref t.a) (λi σ H'=>∃(v2:Option V) (D:Addr),σ=[some (V.ref t.a),some (V.ref D),v2]/\H' D=some (.lst ((t.a::gE (t.kids.take i)).map V.ref))/\new K H D/\Ext K H H'/\Ext K G H') ⟨_,D,rfl,by rw[hD,List.take_zero];unfold gE;rfl,nD,x1,Ext.refl⟩ ?_ ?_ ?_
 . rintro i σ H' _ ⟨v2,D,rfl,_,_,_,y⟩;exact aR.of (y.at e3)
 . rintro i x σ H' hx ⟨v2,D,rfl,hD,nD,xH,y⟩;rw[bb]at hx;obtain⟨u,hu,rfl⟩:=bj.mp hx;have mu:=ba hu;have et:t.kids.take (i + 1)=t.kids.take i++[u]:=by rw[List.take_add_one,hu];rfl
   have le:∀us vs:List Tr,(gE us).length<=(gE (us++vs)).length:=λus vs=>by rw[jP,jP,ab,ab,qR,ax];omega
   have l1:(gE (t.kids.take (i + 1))).length<=1000:=by
     have:=le (t.kids.take (i + 1)) (t.kids.drop (i + 1));rw[uk]at this;rw[ZX,List.length_cons]at hl;omega
   rw[et,nO,ax]at l1
   ext
   refine⟨u,H0,S,rfl,?_,by omega,(lk.mem mu).fr (Fr.ext y),λD2 H2 n2 h2 x2=>⟨D2,rfl,_,x2.at hD,_,h2,?_,λD3 n3=>?_⟩⟩
   . have:=Fg mu;have:t.ht=Iv t.kids + 1:=by
       cases t with
       | leaf=>cases mu
       | inner a lo hi aX aU ks=>unfold Tr.ht Tr.kids;rfl
     omega
   . rw[ab,ab,List.length_cons];omega
   . have x3:=x2.trans (Ext.new (o:=.lst ((t.a::gE (t.kids.take i)).map V.ref++u.adr.map V.ref)) n3);exact⟨by rw[et,nO,<- bo];rfl,bL (xH.trans x2) n3,xH.trans x3,y.trans x3⟩
 . rintro σ H' ⟨v2,D,rfl,hD,nD,xH,y⟩
   ext
   rw[ab,dv,<- ZX]at hD;exact q D H' nD hD xH
theorem xr :(!0) 0 f fd ["_law_room_here"] (sC K 0):=
 ⟨λ_ _ _ _ h=>by cases h;omega,λ_ _ _ _ _ _ _ _ _ _ _ _ _ h=>by cases h;omega⟩
include B in
theorem qT {f:Addr}{fd:FuncData}(F:bQ K "_law_all" "_law_all" j6 f fd)(b:Binds K fd ["_law_room_here"] [])(kp:keepIn K (.ref f)=true)(m:mg "_law_all"=some (.ref f)):∀n:Nat,(!0) n f fd ["_law_room_here"] (sC K n)
 | 0=>xr
 | n + 1=>xq B F ⟨f,fd,qT F b kp m n,b,kp,m⟩
include B in
theorem BH (F:bQ K "_law_all" "_law_all" j6 f fd)(b:Binds K fd ["_law_room_here"] [])(kp:keepIn K (.ref f)=true)(m:mg "_law_all"=some (.ref f)):(!0) 5 f fd ["_law_room_here"] (sC K 5):=qT B F b kp m 5
mutual
def flat:PyData->Bool
 | .list _=>false
 | .tuple ds=>yV ds
 | _=>true
def yV:List PyData->Bool
 | []=>true
 | d::ds=>flat d&&yV ds
end
mutual
theorem aS.flat {H0 H1 H:Hp}:∀{d:PyData}{v:V},eO.flat d=true->aS K H0 H d v->aS K H1 H d v
 | .none,v,_,h=>h
 | .int i,v,_,h=>h
 | .str s,v,_,h=>h
 | .list ds,v,f,h=>by unfold eO.flat at f;cases f
 | .tuple ds,v,f,h=>by
   unfold eO.flat at f;unfold aS at h ⊢;obtain⟨a,vs,e,ha,hs⟩:=h;exact⟨a,vs,e,ha,ao.flat f hs⟩
 | .bool _,v,_,h=>h
 | .dict _,v,_,h=>h
theorem ao.flat {H0 H1 H:Hp}:∀{ds:List PyData}{vs:List V},yV ds=true->ao K H0 H ds vs->ao K H1 H ds vs
 | [],vs,_,h=>h
 | d::ds,vs,f,h=>by
   unfold yV at f;rw[cm]at f;unfold ao at h ⊢;obtain⟨v,r,e,h1,h2⟩:=h;exact⟨v,r,e,aS.flat f.1 h1,ao.flat f.2 h2⟩
end
theorem nV {α:Type}{d:α->PyData}(h:∀a,flat (d a)=true):∀l:List α,yV (l.map d)=true
 | []=>rfl
 | a::l=>by
   rw[List.map_cons];unfold yV;rw[h a,nV h l];rfl
theorem LA (p:jq):flat (iH p)=true:=by
 obtain⟨n,o⟩:=p;cases o <;> rfl
theorem Fi (e:Nt):flat e.d=true:=by
 obtain⟨n,lo,hi,t,m⟩:=e;cases t <;> cases m <;> rfl
theorem Fj {c:Addr}{rows:List (Int×List jq)}(hc:H c=some (.lst us))(al:ao K H0 H (rows.map fk) us)(nD:new K H D)(hz:rows.length<=1000)
   (elt:∀(k:Int) (B:Addr) (ys:List V) (H':Hp) (Q':VK),H' B=some (.lst ys)->(∀l T,new K H' l->new K (upd H' l (.lst ys)) T->Q' (.ref T) (upd (upd H' l (.lst ys)) T (.tup [.int k,.ref l])))->te [some (.int k),some (.ref B)] H' Q')
   (fin:∀vs H',H' D=some (.lst vs)->ao K H H' (rows.map fk) vs->Ext K H H'->Q H'):b7 (sQ K c) (qE K 2 (iy (cQ 0) (iy (cQ 1) wN))) pK te D Q [v0,v1] (upd H D (.lst [])):=by
 obtain⟨L,e1,e2,hL⟩:=ao.zip al;have lL:L.length=rows.length:=by rw[e2,ab]
 refine iF (xs:=us) (λi acc σ' H'=>∃v0 v1,σ'=[v0,v1]/\H' D=some (.lst acc)/\acc.length=i/\ao K (upd H D (.lst [])) H' ((rows.take i).map fk) acc/\Kp K D (upd H D (.lst [])) H') ⟨_,_,rfl,af,rfl,ao.nil,Kp.refl⟩ ?_ ?_ ?_
 . rintro i acc σ' H' _ ⟨v0,v1,rfl,hD,_,_,k⟩;exact aR.of ((k.ext nD).at hc)
 . rintro i x acc σ' H' hx ⟨v0,v1,rfl,hD,ln,ha,k⟩;rw[e1,bb]at hx;obtain⟨q,hq,rfl⟩:=bj.mp hx;have xk:=k.ext nD;obtain⟨T0,B,ys,e3,h1,h2,h3⟩:=j8 ((hL q (ba hq)).ext xk);have hi:i < rows.length:=by
     have:=(bc.mp hq).1;omega
   have er:rows[i]?=some q.2:=by rw[e2,bb,hq];rfl
   rw[e3];unfold pK;simp only[qE,↓Nx,iy,wN,cQ,List.set_cons_zero,List.set_cons_succ];refine⟨_,h1,rfl,_,_,rfl,_,_,rfl,rfl,?_⟩;rw[Fh trivial];refine elt q.2.1 B ys H' _ h2 λl T nl nT=>?_;have y1:=bX (.lst ys) nl;have y2:=y1.trans (Ext.new (o:=.tup [.int q.2.1,.ref l]) nT);have mL:=y2.at hD;have N4:aS K (upd H D (.lst [])) (upd (upd H' l (.lst ys)) T (.tup [.int q.2.1,.ref l])) (fk q.2) (.ref T):=by
     unfold fk;exact aS.tt.mpr ⟨T,_,rfl,aK,ao.cons (aS.ii.mpr rfl) (ao.cons (aS.ll.mpr ⟨l,ys,rfl,fB k hD nl,(Ext.new (K:=K) nT).at af,(h3.flat (nV LA _)).ext y2⟩) ao.nil)⟩
   refine⟨mL,by rw[ln];exact bp hi (cn hz RF),_,_,rfl,af,by rw[ax,ln];rfl,?_,k.trans (y2.kp.trans (Kp.upd mL))⟩;rw[List.take_add_one,er,ip];exact((ha.ext y2).map N4).fr (Fr.kp (K:=K) (H0:=upd H D (.lst [])) af mL (Kp.upd mL))
 . rintro acc σ' H' ⟨v0,v1,rfl,hD,ln,ha,k⟩;rw[show us.length=rows.length from by rw[e1,ab,lL],dv]at ha;exact fin acc H' hD (ha.old (Ext.new nD)) (k.ext nD)
theorem bz.len {a b c hi:Int}{g:Nat}:∀{ts:List Tr}{aX:List Int}{lo:Int},bz a b c ts g lo aX hi->ts.length=aX.length + 1
 | [],_,_,h=>by unfold bz at h;exact h.elim
 | t::ts,[],lo,h=>by unfold bz at h;rw[h.2];rfl
 | t::ts,q::qs,lo,h=>by unfold bz at h;rw[List.length_cons,List.length_cons,bz.len h.2]
theorem Oa {t:Tr}(h:gQ K H0 H S t)(e:S t.a=some n):∃aA,H t.a=some (.dK aA)/\dO aA kN=some (.int n):=by
 cases t with
 | leaf a lo hi rows=>
   unfold gQ at h;obtain⟨e',R,Z,us,h1,_⟩:=h;rw[show S a=some n from e]at h1;exact⟨_,h1,(vN HY).trans ((vN Sn).trans ((vN HZ).trans vP))⟩
 | inner a lo hi aX aU ks=>
   unfold gQ at h;obtain⟨e',D,Y,Z,us,h1,_⟩:=h;rw[show S a=some n from e]at h1;exact⟨_,h1,(vN HY).trans ((vN Lz).trans ((vN So).trans ((vN HZ).trans vP)))⟩
theorem ao.ko {H0 H:Hp}:∀ns:List Int,ao K H0 H (ns.map PyData.int) (ns.map V.int)
 | []=>ao.nil
 | n::ns=>ao.cons (aS.ii.mpr rfl) (ao.ko ns)
def Tr.told (g:Addr->Int):Tr->PyData
 | .leaf a _ _ rows=>.tuple [.str "leaf",.int (g a),.list (rows.map fk)]
 | .inner a _ _ aX aU ks=>.tuple [.str "inner",.int (g a),.list (aX.map PyData.int),.list (ks.map λt=>.int (g t.a)),.list (aU.map Nt.d)]
inductive Fl (K:Frag)(vs:List V)(H:Hp)(Q:VK)(E9:XK):Prop
 | mk (t H0 S g a b c f lo hi:_) (_:vs=[.ref t.a]) (_:gQ K H0 H S t) (_:S t.a=some (g t.a)) (_:(∀u∈t.kids,S u.a=some (g u.a))) (_:bB a b c t f lo hi) (_:∀v H',aS K H H' (t.told g) v->Ext K H H'->Q v H')
include B in
theorem Ac (F:bQ K "_law_told" "_law_told" jo f fd):(!0) 1 f fd ["_law_room_here"] (Fl K):=by
 exists 0,["_law_room_here","_law_numbers"]
 obtain⟨t,H0,S,g,a,b,c,f,lo,hi,rfl,la,s0,s1,ok,q⟩:=h;refine aq (rest:=(aj jo).drop 2) (aE (aN (oR (aa cJ (aa (wL (fz hr.units cG (jm cJ) (λ_ _=>rfl))) (aa (dI b9 rfl B.list cE (aa (wL (fz hr.units cG (jm cJ) (λ_ _=>rfl))) ah)) (aa cF (aa (dI b9 rfl B.list cE (aa (wL (fz hr.units cG (jm cJ) (λ_ _=>rfl))) ah)) ah)))))))) λr2 J2 e2=>?_;refine aq (rest:=(aj jo).drop 1) (ak (YF (i:=1) nk rfl (Or.inl rfl) (ck [ "_law_one" ] [none]) rfl (j5 (bU (jm (wL (fz hr.units cG (jm cJ) (λ_ _=>rfl)))))) (λ_ _ _ _=>(gn 0 nk)) (λ_ _ _ _=>c6) (λ_ _ _ _=>(wL (fz hr.units cG (jm cJ) (λ_ _=>rfl))))) J2) λr1 J1 e1=>?_;refine⟨_,(ak (gJ (cM (cg (om (KO (dt (gL _ 64) hr.units))) (jm (wL (fz hr.units cG (jm cJ) (λ_ _=>rfl)))) (jm (jx ah)) (aF _))) (aE (aN (oR (aa cJ (aa (wL (fz hr.units cG (jm cJ) (λ_ _=>rfl))) (aa (qe (ck [ "_law_key","_law_versions" ] [none,none]) rfl (j5 (bU (jm (wL (fz hr.units cG (jm cJ) (λ_ _=>rfl)))))) (λ_ _ _ _=>(lA (iT K (n:=2) rfl (ay (gn 0 nk) (ay (gn 1 nk) dR))))) (λ_ _ _ _=>c6) (λ_ _ _ _=>(Tc (uU K (am (aa bg (aa (dI (iU K) rfl B.list cE (aa cF ah)) ah))))))) ah)))))) b8) J1),?_⟩
 ext
 obtain⟨aA,Z,k1,k2,k3,lk⟩:=vQ la;refine⟨_,jQ k1 k2,λE0' n0=>⟨Z,rfl,_,aR.of ((Ext.new n0).at k3),aR.of af,?_⟩⟩;have x0:=bX (.lst []) n0;have Ob:=la.fr (Fr.ext x0);generalize upd H E0' (.lst [])=G at *;cases t with
 | leaf a' jt fF rows=>
   unfold gQ at Ob;obtain⟨e,R,Z',us,h1,n1,h2,n3,h3,h4,n5,h5⟩:=Ob;rw[show S a'=some (g a') from s0]at h1;unfold bB at ok;refine bq rfl ⟨_,jQ h1 ((vN HY).trans ((vN Sn).trans ((vN HZ).trans vP))),_,jQ h1 ((vN Wr).trans vP),R,rfl,⟨_,aR.of h3⟩,λD nD=>Fj h3 h4 nD (by have:=ok.2.2.2.2.l;omega) (λk B ys H' Q' hB qq=>?_) (λvs H' hD al xx T nT=>?_)⟩
   . simp_arith [aI hB];exactλl nl T nT=>qq l T nl nT
   . have xT:=bX (.tup [V.str (Str.ofString "leaf"),V.int (g a'),V.ref D]) nT;refine q _ _ ?_ (x0.trans (xx.trans xT));unfold Tr.told;exact aS.tt.mpr ⟨T,_,rfl,aK,ao.cons (aS.ss.mpr rfl) (ao.cons (aS.ii.mpr rfl) (ao.cons (aS.ll.mpr ⟨D,vs,rfl,bL x0 nD,xT.at hD,(al.ext xT).old x0⟩) ao.nil))⟩
 | inner a' jt fF aX aU ks=>
   unfold gQ at Ob;obtain⟨e,D,Y,Z',us,h1,n1,h2,⟨n3,h3⟩,⟨n4,h4,h5⟩,⟨n6,h6⟩,h7⟩:=Ob;rw[show S a'=some (g a') from s0]at h1;have ks0:ks≠[]:=by
     unfold bB at ok;obtain⟨_,_,_,_,g',_,_,ok⟩:=ok;intro z;rw[z]at ok;unfold bz at ok;exact ok
   refine aJ (by cases ks with | nil=>exact absurd rfl ks0 | cons x r=>simp[Tr.kids]) ?_;rw[e1]
   ext
   refine⟨_,jQ h1 ((vN Lx).trans ((vN Ff).trans ((vN N8).trans vP))),Z',rfl,⟨_,aR.of h6⟩,λN nN=>?_⟩;have Wu:ks.length<=4:=by
     unfold bB at ok;obtain⟨_,_,l3,_,g',_,_,ok⟩:=ok;have:=bz.len ok;omega
   refine gf (L:=ks) (f:=λt=>V.ref t.a) (g:=λt=>V.int (g t.a)) (aR.of h6) nN QR (λu hu H' Q' xx qq=>?_) (λH1 hN x1=>?_)
   . ext
     obtain⟨kv,ev,vv⟩:=Oa ((h7.mem hu).fr (Fr.ext xx)) (s1 u hu);exact⟨_,jQ ev vv,qq _ Ext.refl⟩
   rw[e2]
   ext
   have ZY:=x1.at h1;have h31:=x1.at h3;refine⟨_,jQ ZY ((vN HY).trans ((vN Lz).trans ((vN So).trans ((vN HZ).trans vP)))),_,jQ ZY ((vN Pe).trans vP),D,rfl,_,aI h31,λl1 m1=>?_⟩;have y1:=bX (.lst (aX.map V.int)) m1;refine⟨_,jQ (y1.at ZY) ((vN Ws).trans ((vN Pf).trans vP)),Y,rfl,_,aI ((x1.trans y1).at h4),λl2 m2 T nT=>?_⟩;have y2:=bX (.lst us) m2;have y3:=bX (.tup [V.str (Str.ofString "inner"),V.int (g a'),V.ref l1,V.ref N,V.ref l2]) nT;have xx:=x0.trans x1;refine q _ _ ?_ (xx.trans (y1.trans (y2.trans y3)));unfold Tr.told;refine aS.tt.mpr ⟨T,_,rfl,aK,ao.cons (aS.ss.mpr rfl) (ao.cons (aS.ii.mpr rfl) (ao.cons (aS.ll.mpr ⟨l1,_,rfl,bL xx m1,(y2.trans y3).at af,ao.ko aX⟩) (ao.cons (aS.ll.mpr ⟨N,_,rfl,bL x0 nN,(y1.trans (y2.trans y3)).at hN,?_⟩) (ao.cons (aS.ll.mpr ⟨l2,us,rfl,bL (xx.trans y1) m2,y3.at af,?_⟩) ao.nil))))⟩
   . have:=ao.ko (K:=K) (H0:=H) (H:=upd (upd (upd H1 l1 (.lst (aX.map V.int))) l2 (.lst us)) T (.tup [V.str (Str.ofString "inner"),V.int (g a'),V.ref l1,V.ref N,V.ref l2])) (ks.map λt=>g t.a);rw[dn,dn]at this;exact this
   . exact(h5.flat (nV Fi _)).ext (x1.trans (y1.trans (y2.trans y3)))
theorem BI {a:Addr}(hA:H A=some (.dK aA))(h:tupQ K H a=some xs):tupQ K (upd H A o) a=some xs:=by
 rw[qv (λz=>by rw[z]at h;unfold tupQ at h;rw[hA]at h;cases h)];exact h
theorem i0 {a:Addr}(hA:H A=some (.dK aA))(h:H a=some (.lst xs)):upd H A o a=some (.lst xs):=by
 rw[au (λz=>by rw[z,hA]at h;cases h)];exact h
def Pg (u:HO):Prop:=(∀xs,u≠.lst xs)/\∀xs,u≠.tup xs
theorem Ph :Pg (.dK aA):=⟨λ_ z=>(by cases z),λ_ z=>(by cases z)⟩
theorem LB {c:Addr}{fs:List (Str×V)}:Pg (.ins c dx fs):=⟨λ_ z=>(by cases z),λ_ z=>(by cases z)⟩
theorem BJ {a:Addr}{u:HO}(hA:H A=some u)(ou:Pg u)(h:tupQ K H a=some xs):tupQ K (upd H A o) a=some xs:=by
 rw[qv (λz=>by rw[z]at h;unfold tupQ at h;rw[hA]at h;cases u <;> first | cases h;done | exact ou.2 _ rfl)];exact h
theorem jR {a:Addr}{u:HO}(hA:H A=some u)(ou:Pg u)(h:H a=some (.lst xs)):upd H A o a=some (.lst xs):=by
 rw[au (λz=>by rw[z,hA]at h;exact ou.1 _ (Option.some.inj h))];exact h
mutual
theorem aS.gF {H0 H:Hp}{A:Addr}{u o:HO}(hA:H A=some u)(ou:Pg u):∀{d:PyData}{v:V},aS K H0 H d v->aS K H0 (upd H A o) d v
 | .none,v,h=>h
 | .int i,v,h=>h
 | .str s,v,h=>h
 | .list ds,v,h=>by
   unfold aS at h ⊢;obtain⟨a,vs,e,n,ha,hs⟩:=h;exact⟨a,vs,e,n,jR hA ou ha,ao.gF hA ou hs⟩
 | .tuple ds,v,h=>by
   unfold aS at h ⊢;obtain⟨a,vs,e,ha,hs⟩:=h;exact⟨a,vs,e,BJ hA ou ha,ao.gF hA ou hs⟩
 | .bool _,v,h=>h
 | .dict _,v,h=>h
theorem ao.gF {H0 H:Hp}{A:Addr}{u o:HO}(hA:H A=some u)(ou:Pg u):∀{ds:List PyData}{vs:List V},ao K H0 H ds vs->ao K H0 (upd H A o) ds vs
 | [],vs,h=>h
 | d::ds,vs,h=>by
   unfold ao at h ⊢;obtain⟨v,r,e,h1,h2⟩:=h;exact⟨v,r,e,aS.gF hA ou h1,ao.gF hA ou h2⟩
end
theorem ao.sA (hA:H A=some (.dK aA)){ds:List PyData}(h:ao K H0 H ds vs):ao K H0 (upd H A o) ds vs:=h.gF hA Ph
def DS (S:Addr->Option Int)(A:Addr)(n:Int):Addr->Option Int:=λx=>if x=A then some n else S x
theorem BL {a:Addr}{l:List (Key×V)}(hA:H A=some (.dK aA))(hS:S A=none)(hl:(l.any λkv=>decide (kv.1=kN))=false)(h:H a=some (.dK (l++DR (S a)))):
   upd H A (.dK (putK aA kN (.int n))) a=some (.dK (l++DR (DS S A n a))):=by
 by_cases e:a=A
 . subst e;rw[hS,hA]at h;injection h with h;injection h with h;rw[af,h,show DR none=[] from rfl,List.append_nil,u9 hl];unfold DS;rw[Fh rfl];rfl
 . rw[au e,h];unfold DS;rw[Ee e]
mutual
theorem gQ.put {H0 H:Hp}{S:Addr->Option Int}{A:Addr}{n:Int}{aA:List (Key×V)}(hA:H A=some (.dK aA))(hS:S A=none):∀{t:Tr},gQ K H0 H S t->gQ K H0 (upd H A (.dK (putK aA kN (.int n)))) (DS S A n) t
 | .leaf a lo hi rows,h=>by
   unfold gQ at h ⊢;obtain⟨e,R,Z,us,h1,n1,h2,n3,h3,h4,n5,h5⟩:=h;exact⟨e,R,Z,us,BL hA hS (by simp[HY,Sn,HZ]) h1,n1,BI hA h2,n3,i0 hA h3,h4.sA hA,n5,i0 hA h5⟩
 | .inner a lo hi aX aU kids,h=>by
   unfold gQ at h ⊢;obtain⟨e,D,Y,Z,us,h1,n1,h2,⟨n3,h3⟩,⟨n4,h4,h5⟩,⟨n6,h6⟩,h7⟩:=h;exact⟨e,D,Y,Z,us,BL hA hS (by simp[HY,Lz,So,HZ]) h1,n1,BI hA h2,⟨n3,i0 hA h3⟩,⟨n4,i0 hA h4,h5.sA hA⟩,⟨n6,i0 hA h6⟩,cu.put hA hS h7⟩
theorem cu.put {H0 H:Hp}{S:Addr->Option Int}{A:Addr}{n:Int}{aA:List (Key×V)}(hA:H A=some (.dK aA))(hS:S A=none):∀{ts:List Tr},cu K H0 H S ts->cu K H0 (upd H A (.dK (putK aA kN (.int n)))) (DS S A n) ts
 | [],h=>h
 | t::ts,h=>by
   unfold cu at h ⊢;exact⟨gQ.put hA hS h.1,cu.put hA hS h.2⟩
end
def qU (l:List Addr)(turn:Int):Addr->Int:=λx=>((l.idxOf x:Nat) + turn) % (l.length:Int)
def xu (l:List Addr)(turn:Int)(k:Nat):Addr->Option Int:=λx=>if x∈l.take k then some (qU l turn x) else none
theorem vR {l:List Addr}(nd:l.Nodup){k:Nat}{a:Addr}(h:l[k]?=some a):l.idxOf a=k:=by
 obtain⟨hk,e⟩:=bc.mp h;rw[<- e];exact nd.idxOf_getElem k hk
theorem Ia {l:List Addr}(nd:l.Nodup){k:Nat}{a:Addr}(h:l[k]?=some a):xu l turn (k + 1)=DS (xu l turn k) a (((k:Nat) + turn) % (l.length:Int))/\xu l turn k a=none:=by
 have ek:qU l turn a=((k:Nat) + turn) % (l.length:Int):=by
   unfold qU;rw[vR nd h]
 have na:a∉l.take k:=λm=>by
   obtain⟨i,hi,e⟩:=fv.mp m;have YR:i < k:=by rw[fb]at hi;omega
   have:l[i]?=some a:=by rw[<- e,List.getElem_take,<- a9]
   have h1:=vR nd this;have h2:=vR nd h;omega
 refine⟨?_,Ee na⟩
 funext x
 unfold xu DS;rw[List.take_add_one,h,ip]
 by_cases e:x=a
 . rw[e,Fh RR,Fh rfl,ek]
 . rw[Ee e]
   by_cases m:x∈l.take k
   . rw[Fh (by simp[m])];exact(Fh m).symm
   . rw[Ee (by simp[m,e])];exact(Ee m).symm
theorem LC {l:List Addr}{a:Addr}(h:a∈l):xu l turn l.length a=some (qU l turn a):=by
 unfold xu;rw[dv,Fh h]
theorem Ib {l:List Addr}{a:Addr}(h:a∈l):0<=qU l turn a/\qU l turn a < l.length:=by
 have:0 < l.length:=List.length_pos_of_mem h;unfold qU;exact⟨Bz _ QR,wy _ QR⟩
theorem Ic {l:List Addr}(nd:l.Nodup):(l.map (qU l turn)).Nodup:=by
 refine List.pairwise_map.mpr (mN.mpr λi j hi hj ij e=>?_);unfold qU at e;rw[vR nd (a9 hi),vR nd (a9 hj)]at e;have h1:=Int.emod_eq_emod_iff_emod_sub_eq_zero.mp e.symm;rw[show(j:Int) + turn - ((i:Int) + turn)=(j:Int) - i from by omega,Int.emod_eq_of_lt QR QR]at h1;omega
def sz:Nat->Nat
 | 0=>1
 | f + 1=>1 + 4 * sz f
mutual
theorem bB.jw {a b c:Int}:∀{t:Tr}{f:Nat}{lo hi:Int},bB a b c t f lo hi->t.adr.length<=sz f/\t.ht<=f
 | .leaf a' l h rows,f,lo,hi,ok=>by
   unfold bB at ok;unfold Tr.adr Tr.ht;rw[ok.1];exact⟨ar _,ar _⟩
 | .inner a' l h aX aU ks,f,lo,hi,ok=>by
   unfold bB at ok;obtain⟨_,_,l3,_,g,rfl,_,ok⟩:=ok;unfold Tr.adr Tr.ht;have h1:=bz.jw ok;have h2:=bz.len ok;refine⟨?_,by omega⟩;rw[List.length_cons];show _<=1 + 4 * sz g;have:ks.length * sz g<=4 * sz g:=Nat.mul_le_mul_right _ QR;omega
theorem bz.jw {a b c:Int}:∀{ts:List Tr}{g:Nat}{lo:Int}{aX:List Int}{hi:Int},bz a b c ts g lo aX hi->(gE ts).length<=ts.length * sz g/\Iv ts<=g
 | [],g,lo,aX,hi,ok=>by unfold bz at ok;exact ok.elim
 | t::ts,g,lo,[],hi,ok=>by
   unfold bz at ok;have h1:=bB.jw ok.1;rw[ok.2];unfold gE Iv;rw[ax];unfold gE Iv;simp;omega
 | t::ts,g,lo,q::qs,hi,ok=>by
   unfold bz at ok;have h1:=bB.jw ok.1;have h2:=bz.jw ok.2;unfold gE Iv;rw[ax,List.length_cons,Nat.add_mul];omega
end
theorem BN (t:Tr):t∈t.pre:=by rw[g7];exact dq ..
theorem vS:∀{ts:List Tr}{v:Tr},v∈ts->v∈c8 ts
 | t::ts,v,h=>by
   unfold c8;rcases List.mem_cons.mp h with rfl | h
   . exact lx _ (BN v)
   . exact cf _ (vS h)
mutual
theorem bB.pre {a b c:Int}:∀{t:Tr}{f:Nat}{lo hi:Int},bB a b c t f lo hi->∀u∈t.pre,∃f' jt fF,bB a b c u f' jt fF
 | .leaf a' l h rows,f,lo,hi,ok,u,hu=>by
   unfold Tr.pre at hu;rw[cw.mp hu];exact⟨f,lo,hi,ok⟩
 | .inner a' l h aX aU ks,f,lo,hi,ok,u,hu=>by
   unfold Tr.pre at hu;rcases List.mem_cons.mp hu with rfl | hu
   . exact⟨f,lo,hi,ok⟩
   . unfold bB at ok;obtain⟨_,_,l3,_,g,rfl,_,ok⟩:=ok;exact bz.pre ok u hu
theorem bz.pre {a b c:Int}:∀{ts:List Tr}{g:Nat}{lo:Int}{aX:List Int}{hi:Int},bz a b c ts g lo aX hi->∀u∈c8 ts,∃f' jt fF,bB a b c u f' jt fF
 | [],g,lo,aX,hi,ok,u,hu=>by unfold bz at ok;exact ok.elim
 | t::ts,g,lo,[],hi,ok,u,hu=>by
   unfold bz at ok;rw[ok.2]at hu;unfold c8 at hu;unfold c8 at hu;rw[List.append_nil]at hu;exact bB.pre ok.1 u hu
 | t::ts,g,lo,q::qs,hi,ok,u,hu=>by
   unfold bz at ok;unfold c8 at hu;rcases da.mp hu with hu | hu
   . exact bB.pre ok.1 u hu
   . exact bz.pre ok.2 u hu
end
mutual
theorem gQ.pre {H0 H:Hp}{S:Addr->Option Int}:∀{t:Tr},gQ K H0 H S t->∀u∈t.pre,gQ K H0 H S u/\∀v∈u.kids,v∈t.pre
 | .leaf a lo hi rows,h,u,hu=>by
   unfold Tr.pre at hu;rw[cw.mp hu];exact⟨h,λv hv=>by cases hv⟩
 | .inner a lo hi aX aU ks,h,u,hu=>by
   have hk:cu K H0 H S ks:=by
     unfold gQ at h;obtain⟨_,_,_,_,_,_,_,_,_,_,_,h7⟩:=h;exact h7
   unfold Tr.pre at hu ⊢;rcases List.mem_cons.mp hu with rfl | hu
   . exact⟨h,λv hv=>cx _ (vS hv)⟩
   . have:=cu.pre hk u hu;exact⟨this.1,λv hv=>cx _ (this.2 v hv)⟩
theorem cu.pre {H0 H:Hp}{S:Addr->Option Int}:∀{ts:List Tr},cu K H0 H S ts->∀u∈c8 ts,gQ K H0 H S u/\∀v∈u.kids,v∈c8 ts
 | [],_,u,hu=>by unfold c8 at hu;cases hu
 | t::ts,h,u,hu=>by
   unfold cu at h;unfold c8 at hu ⊢;rcases da.mp hu with hu | hu
   . have:=gQ.pre h.1 u hu;exact⟨this.1,λv hv=>lx _ (this.2 v hv)⟩
   . have:=cu.pre h.2 u hu;exact⟨this.1,λv hv=>cf _ (this.2 v hv)⟩
end
theorem gQ.ZZ {t:Tr}(h:gQ K H0 H S t){a:Addr}(ha:a∈t.adr):∃o,H a=some (.dK o)/\o.length<=5:=by
 rw[dj]at ha;obtain⟨u,hu,rfl⟩:=gs.mp ha;have l1:∀o,(DR o).length<=1:=λo=>by cases o <;> simp[DR]
 have lu:=(h.pre u hu).1;cases u with
 | leaf a lo hi rows=>
   unfold gQ at lu;obtain⟨e,R,Z,us,h1,_⟩:=lu;exact⟨_,h1,by rw[ax];have:=l1 (S a);simp;omega⟩
 | inner a lo hi aX aU ks=>
   unfold gQ at lu;obtain⟨e,D,Y,Z,us,h1,_⟩:=lu;exact⟨_,h1,by rw[ax];have:=l1 (S a);simp;omega⟩
structure Th (a b c:Int)(pl:Str)(f:Nat)(last:Int)(ms:List Int)(fr:Int)(g:Addr->Int)(t:Tr):Prop where
 rl:DO a b c pl
 f3:f<=3
 ok:bB a b c t f 0 (10 ^ 12)
 la:40 * (f:Int) + 40<=last/\last<=40 * (f:Int) + 48
 up:ms.Pairwise (· < ·)
 ml:ms.length<=4
 mr:∀m∈ms,1<=m/\m<=last
 nd:(t.adr.map g).Nodup
 gr:∀x∈t.adr,0<=g x/\g x < fr
 fr:1<=fr/\fr<=2000
def kq (a b c:Int)(pl:Str)(last:Int)(ms:List Int)(fr:Int)(g:Addr->Int)(t:Tr):PyData:=
 .tuple [.tuple [.int a,.int b,.int c,.str pl],.int last,.list (ms.map PyData.int),.int fr,.list (t.pre.map (Tr.told g))]
structure WAt (K:Frag)(H0 H:Hp)(W M:Addr)(im:V)(ks ms:List Int)(bs:Int)(t:Tr)(d:PyData)(S:Addr->Option Int):Prop where
 w:∃Kd,H W=some (.dK [(.inr "image",im),(.inr "top",.ref t.a),(.inr "keys",.ref Kd),(.inr "marks",.ref M),(.inr "base",.int bs)])/\H Kd=some (.lst (ks.map V.int))/\new K H0 Kd
 nW:new K H0 W
 im:aS K H0 H d im
 t:gQ K H0 H S t
 m:H M=some (.lst (ms.map V.int))
 nM:new K H0 M
theorem Ext.Z1 {K:Frag}{o':HO}(n:new K H p):Ext K H (upd (upd H p o) p o'):=by
 have e:upd (upd H p o) p o'=upd H p o':=by
   funext a
   by_cases h:a=p
   . rw[h,af,af]
   . rw[au h,au h,au h]
 rw[e];exact Ext.new n
theorem Kp.Z2 {G:Hp}(k:Kp K p H G)(n:new K H A):Kp K p H (upd G A o):=
 ⟨λq u e ne=>by rw[au (aH e n.1)];exact k.keep q u e ne,λb xs e m=>by rw[au (λz=>by rw[z,n.2]at m;cases m)];exact k.mod b xs e m⟩
inductive Fo (K:Frag)(vs:List V)(H:Hp)(Q:VK)(E9:XK):Prop
 | mk (p:_) (_:vs=[.ref p]) (_:Wl H p) (_:∀W M im ks ms bs t S a b c pl f last fr g H',WAt K H H' W M im ks ms bs t (kq a b c pl last ms fr g t) S->(∀x∈t.adr,S x=some (g x))->(∀k∈ks,0<=k/\k < 10 ^ 12)->ks.length<=30->Th a b c pl f last ms fr g t->Wl H' p->Kp K p H H'->Q (.ref W) H')
include B in
theorem xw (F:bQ K "_law_world" "_law_world" bA f fd)(ai:⋯ "_law_draw" 1 ["_law_well_here","_law_many"] (ig K))(mP:⋯ "_law_rule" 2 ["_law_well_here"] (Fd K))(gZ:⋯ "_law_room" 11 ["_law_well_here","_law_rule_here","_law_base","_law_ends","_law_floor"] (nQ K 7))(iZ:⋯ "_law_all" 5 ["_law_room_here"] (sC K 5))(mQ:⋯ "_law_told" 1 ["_law_room_here"] (Fl K)):(!0) 12 f fd ["_law_well_here"] (Fo K):=by
 exists 0,["_law_well_here","_law_rule_here","_law_floor","_law_far","_law_base","_law_last","_law_marks","_law_turn","_law_more","_law_top","_law_rooms","_law_k","_law_image","_law_keys"]
 obtain⟨p,rfl,hp,q⟩:=h;refine aq (rest:=(aj bA).drop 13) (aE (aN (Dk (l7 Se (l7 O8 (l7 Ld (l7 Cm (l7 nH Rz)))))))) λr13 J13 e13=>?_;refine aq (rest:=(aj bA).drop 12) (ak (ss 13 nk (j0 rfl rfl B.sorted rfl B.set (aa (cA dg (jx (aa ei ah)) (qe (ck [ "_law_key" ] [none]) rfl (Zh (zw rfl B.range (am (aa (cA (mA fW) nH ei) (aa (cA (mA bw) nH ei) ah))))) (λ_ _ _ _=>(gn 0 nk)) (λ_ _ _ _=>(zC (RK (C1 (om (mA fX)) (om (mA iN)) (jm ei) cG (jm (ji 1000000000000)))))) (λ_ _ _ _=>bg))) ah))) J13) λr12 J12 e12=>?_;refine aq (rest:=(aj bA).drop 11) (ak (ss 12 nk (oR (aa cF (aa tZ (aa Cm (aa (cA (mA bw) (t6 B.len Dz) yL) (aa (qe (ck [ "_law_room_here" ] [none]) rfl (j5 (bU Zw)) (λ_ _ _ _=>(gn 0 nk)) (λ_ _ _ _=>c6) (λ_ _ _ _=>(ec mQ hr (aa bg ah)))) ah))))))) J12) λr11 J11 e11=>?_;refine aq (rest:=(aj bA).drop 10) (ak (lT PassesOwn.never rfl (SY (ny rfl B.range (am (aa (t6 B.len Dz) ah)))) (gn 11 nk) (aE (ES hr.units (tV (uw jv) Dz HM (λ_ _=>rfl)) cJ (cA (mC pG) (cA (mA bw) HM HL) (t6 B.len Dz))))) J11) λr10 J10 e10=>?_;refine aq (rest:=(aj bA).drop 9) (ak (ss 10 nk (ec iZ hr (aa O8 ah))) J10) λr9 J9 e9=>?_;refine aq (rest:=(aj bA).drop 8) (ak (ss 9 nk (ec gZ hr (aa bg (aa cF (aa nH (aa (oR (aa ei (aa (ji 1000000000000) ah))) (aa fC ah))))))) J9) λr8 J8 e8=>?_;refine aq (rest:=(aj bA).drop 7) (ak (ss 8 nk (ec ai hr (aa bg (aa ei ah)))) J8) λr7 J7 e7=>?_;refine aq (rest:=(aj bA).drop 6) (ak (ss 7 nk (ec ai hr (aa bg (aa ei ah)))) J7) λr6 J6 e6=>?_;refine aq (rest:=(aj bA).drop 5) (ak (ss 6 nk (j0 rfl rfl B.sorted rfl B.set (aa (qe (ck [ "_law_k","_law_well_here","_law_last" ] [none,some 0,some 5]) rfl (SY (ny rfl B.range (am (aa (ec ai hr (aa bg (aa ei ah))) ah)))) (λ_ _ _ _=>(gn 0 nk)) (λ_ _ _ _=>c6) (λ_ _ _ _=>(cA (mA bw) ei (ec ai hr (aa cF (aa fC ah)))))) ah))) J6) λr5 J5 e5=>?_;refine aq (rest:=(aj bA).drop 4) (ak (sset (i:=5) nk rfl (Or.inr rfl) (cA (mA bw) (cA (mA bw) (cA (mC fK) ei fC) ei) (ec ai hr (aa bg (aa ei ah))))) J5) λr4 J4 e4=>?_;refine aq (rest:=(aj bA).drop 3) (ak (ss 4 nk (tV (uw jv) (jx (aa ei (aa (cA (mA fW) (ji 1000000000000) ei) (aa gB ah)))) (ec ai hr (aa bg (aa ei ah))) (λ_ _=>rfl))) J4) λr3 J3 e3=>?_;refine aq (rest:=(aj bA).drop 2) (ak (ss 3 nk (cA (mA bw) (cA (mC fK) (ec ai hr (aa bg (aa (ji 1000000) ah))) ei) (ec ai hr (aa bg (aa ei ah))))) J3) λr2 J2 e2=>?_;refine aq (rest:=(aj bA).drop 1) (ak (ss 2 nk (ec ai hr (aa bg (aa ei ah)))) J2) λr1 J1 e1=>?_;refine⟨_,(ak (ss 1 nk (ec mP hr (aa bg ah))) J1),?_⟩
 ext
 refine⟨p,rfl,hp,λrv a b c pl H1 hrv ro qQ k1=>?_⟩;rw[e1]
 ext
 refine⟨p,4,rfl,qQ,by decide,by decide,λfl H2 f0 f1 lg k2=>?_⟩;obtain⟨f,rfl⟩:∃f:Nat,fl=f:=⟨fl.toNat,by omega⟩
 have f3:f<=3:=QR
 rw[e2]
 ext
 refine⟨p,_,rfl,lg,by decide,by decide,λq1 H3 q10 q11 AA k3=>⟨q1,rfl,p,24,rfl,AA,by decide,by decide,λq2 H4 q20 q21 xh k4=>⟨q2,rfl,?_⟩⟩⟩;rw[e3]
 ext
 intro D1 n1;have x1:=bX (.lst [V.int 0,V.int 999999999976,V.int (q1 * 999000 + q2)]) n1;refine⟨p,3,rfl,xh.ext x1,by decide,by decide,λm3 H5 m30 m31 xj k5=>⟨m3,rfl,_,aI (k5.keep D1 _ af (xh.ne n1)),?_⟩⟩;obtain⟨bs,ebs,hbs⟩:∃n,kZ [V.int 0,V.int 999999999976,V.int (q1 * 999000 + q2)] m3=some (.int n)/\0<=n/\n<=10 ^ 12 - 24:=by
   rcases(by omega:m3=0∨m3=1∨m3=2)with rfl | rfl | rfl
   . exact⟨0,rfl,by decide,by decide⟩
   . exact⟨_,rfl,by decide,by decide⟩
   . exact⟨_,rfl,by omega,by omega⟩
 refine⟨_,ebs,?_⟩;rw[e4]
 ext
 refine⟨p,9,rfl,xj,by decide,by decide,λm9 H6 m90 m91 hp6 k6=>⟨m9,rfl,?_⟩⟩;obtain⟨last,el,hla⟩:∃last,40 * (f:Int) + 40 + m9=last/\40 * (f:Int) + 40<=last/\last<=40 * (f:Int) + 48:=⟨_,rfl,by omega,by omega⟩
 rw[el,e5]
 ext
 have K6:Kp K p H H6:=k1.trans (k2.trans (k3.trans (k4.trans (x1.kp.trans (k5.trans k6)))));obtain⟨yp1,ep1⟩:=qQ.lst;have Wv:ir K H6 rv a b c pl:=by
   obtain⟨R,e,h⟩:=hrv;exact⟨R,e,(k2.trans (k3.trans (k4.trans (x1.kp.trans (k5.trans k6))))).tup ep1 h⟩
 clear k1 k2 k3 k4 k5 k6 x1 qQ lg AA xh xj ep1 hrv ebs;refine⟨p,5,rfl,hp6,by decide,by decide,λm5 H7 m50 m51 uB k7=>?_⟩
 ext
 refine⟨by omega,by omega,λD nD=>?_⟩;have DN:D≠p:=uB.ne nD;refine lW (λi acc σ G=>NF λ(v0:Option V) (ns:List Int)=>Zo (uy σ [v0,some (V.ref p),some (V.int last)]) (acc=ns.map V.int) (ns.length=i) (∀k∈ns,1<=k/\k<=last) (G D=some (.lst acc)) (Wl G p) (oO K p D (upd H7 D (.lst [])) G)) ⟨_,[],rfl,rfl,rfl,λ_ h=>absurd h List.not_mem_nil,af,uB.ext (Ext.new nD),oO.refl⟩ ?_ ?_
 . rintro i acc σ G fF ⟨v0,ns,rfl,rfl,ln,QU,hD,hpG,kG⟩
   ext
   refine⟨p,_,rfl,hpG,by omega,by omega,λr G2 r0 r1 lg k2=>⟨r,rfl,?_⟩⟩;have mL:=k2.keep D _ hD DN;exact⟨mL,by rw[ab];omega,_,ns++[1 + r],rfl,by rw[bo];rfl,by rw[ax,ln];rfl,λk hk=>(by rcases da.mp hk with h | h;exact QU k h;rw[cw.mp h];omega),trivial,lg.upd DN.symm,kG.trans (k2.l.trans (Kp.r (Kp.upd mL)))⟩
 rintro acc σ G ⟨v0,ns,rfl,rfl,ln,QU,hD,hpG,kG⟩;refine⟨ns,aR.of hD,by omega,λM ms nM up mem lm=>?_⟩;have K8:Kp K p H G:=K6.trans (k7.trans (kG.kp nD));have hM:upd G M (.lst (ms.map V.int)) M=some (.lst (ms.map V.int)):=af;have xM:=bX (.lst (ms.map V.int)) nM;have neM:M≠p:=hpG.ne nM;obtain⟨yG,epG⟩:=hpG.lst;have nMH:new K H M:=fB K8 epG nM;have hms:∀m∈ms,1<=m/\m<=last:=λm hm=>QU m ((mem m).mp hm);have lms:ms.length<=4:=QR
 obtain⟨yp6,ep6⟩:=hp6.lst;have Ww:ir K (upd G M (.lst (ms.map V.int))) rv a b c pl:=by
   obtain⟨R,e,h⟩:=Wv;exact⟨R,e,xM.tup ((k7.trans (kG.kp nD)).tup ep6 h)⟩
 have Iu:=hpG.ext xM;have K8:=K8.trans xM.kp;clear hD kG k7 K6 hp6 uB Wv mem QU xM;generalize upd G M (.lst (ms.map V.int))=G8 at *;rw[e6]
 ext
 refine⟨p,100,rfl,Iu,by decide,by decide,λturn H9 t0 t1' DP k9=>?_⟩;rw[e7]
 ext
 refine⟨p,4,rfl,DP,by decide,by decide,λmore H10 mo0 mo1 hp10 DQ=>?_⟩;rw[e8]
 ext
 intro T nT;have xT:=bX (.tup [V.int 0,V.int 1000000000000]) nT;have hT:tupQ K (upd H10 T (.tup [V.int 0,V.int 1000000000000])) T=some [V.int 0,V.int 1000000000000]:=aK;have kT:=k9.trans (DQ.trans xT.kp);obtain⟨y8,ep8⟩:=Iu.lst;have Wx:ir K (upd H10 T (.tup [V.int 0,V.int 1000000000000])) rv a b c pl:=by
   obtain⟨R,e,h⟩:=Ww;exact⟨R,e,kT.tup ep8 h⟩
 have hMT:=kT.keep M _ hM neM;have hpT:=hp10.ext xT;have KT:=K8.trans kT;clear hM Iu DP hp10 k9 DQ xT ep8 Ww K8 kT;generalize upd H10 T (.tup [V.int 0,V.int 1000000000000])=GT at *;refine⟨p,rv,a,b,c,pl,bs,T,0,10 ^ 12,f,rfl,by omega,f3,hpT,Wx,ro,hT,by omega,by omega,λt H11 la ok nd hp11 k11=>?_⟩;have jw:=ok.jw;have s85:sz f<=85:=by
   rcases(by omega:f=0∨f=1∨f=2∨f=3)with rfl | rfl | rfl | rfl <;> decide
 rw[e9]
 ext
 refine⟨t,GT,_,rfl,by omega,by omega,la,λRm H12 nRm hRm jf=>?_⟩;have Z3:=la.fr (Fr.ext jf);rw[e10]
 ext
 refine⟨_,aI hRm,by rw[ab];omega,by rw[ab];omega,?_⟩;have k12:=k11.trans jf.kp;have Z4:=k12.keep M _ hMT neM;rw[ab];obtain⟨A0,eA⟩:∃A0,t.adr=A0:=⟨_,rfl⟩
 rw[eA]at nd jw hRm ⊢;have Wy:∀a∈A0,new K GT a:=λa ha=>(la.adr a (by rw[eA];exact ha)).1;refine jY (λk σ G'=>∃v11,σ=[some (V.ref p),some rv,some (V.int f),some (V.int (q1 * 999000 + q2)),some (V.int bs),some (V.int last),some (V.ref M),some (V.int turn),some (V.int more),some (V.ref t.a),some (V.ref Rm),v11,none,none]/\gQ K GT G' (xu A0 turn k) t/\G' Rm=some (.lst (A0.map V.ref))/\G' M=some (.lst (ms.map V.int))/\Wl G' p/\Kp K p GT G') ⟨_,rfl,by
     have:xu A0 turn 0=λ_=>none:=by funext x;unfold xu;rw[List.take_zero,Ee RR]
     rw[this];exact Z3,hRm,Z4,hp11.ext jf,k12⟩ ?_ ?_
 . rintro k σ G' hk ⟨v11,rfl,lak,hR,hMk,hpk,kk⟩;simp_arith [aI hR];have Cg:k < A0.length:=by simpa using hk
   have eA':A0[k]?=some A0[k]:=a9 Cg;have mA:A0[k]∈A0:=ph Cg;obtain⟨aA,hA,l5⟩:=lak.ZZ (by rw[eA];exact mA);obtain⟨es,en⟩:=Ia nd (turn:=turn) eA';refine⟨by rw[ab];omega,_,eB (by rw[bb,eA'];rfl),A0[k],rfl,_,.inl ⟨aA,kN,hA,rfl,dt l5 RF,rfl⟩,?_⟩;rw[ab,zr,es];exact⟨lak.put hA en,i0 hA hR,i0 hA hMk,hpk.upd (λz=>by obtain⟨y,e⟩:=hpk.lst;rw[z,hA]at e;cases e),Kp.Z2 kk (Wy _ mA)⟩
 rintro σ G' ⟨v11,rfl,lak,hR,hMk,hpk,kk⟩;have hN:(A0.length:Int).toNat=A0.length:=rfl;rw[hN]at lak;have sg:∀x∈t.adr,xu A0 turn A0.length x=some (qU A0 turn x):=λx hx=>LC (by rw[<- eA];exact hx);rw[e11]
 ext
 have eR:A0.map V.ref=t.pre.map (λu=>V.ref u.a):=by rw[<- eA,dj,dn];rfl
 rw[eR]at hR;refine⟨_,aI hR,⟨_,aR.of hR⟩,λD nD=>?_⟩;have LD:t.pre.length=A0.length:=by rw[<- eA,dj,ab]
 have Sl:∀u∈t.pre,u.a∈t.adr:=λu hu=>by rw[dj];exact eP hu
 refine NZ (L:=t.pre) (f:=λu=>V.ref u.a) (g:=Tr.told (qU A0 turn)) (aR.of hR) nD QR (λu hu H' Q' xx qq=>?_) (λvs H13 hD al qf=>?_)
 . ext
   obtain⟨lu,ku⟩:=lak.pre u hu;obtain⟨f',jt,fF,ok'⟩:=ok.pre u hu;exact⟨u,GT,_,qU A0 turn,a,b,c,f',jt,fF,rfl,lu.fr (Fr.ext xx),sg _ (Sl u hu),λv hv=>sg _ (Sl v (ku v hv)),ok',λv H'' at' x''=>qq v H'' x'' at'⟩
 intro I nI;rw[ab,LD];have xI:=qf.trans (Ext.new (o:=.tup [rv,V.int last,V.ref M,V.int (A0.length + more),V.ref D]) nI);have hI:tupQ K (upd H13 I (.tup [rv,V.int last,V.ref M,V.int (A0.length + more),V.ref D])) I=some [rv,V.int last,V.ref M,V.int (A0.length + more),V.ref D]:=aK;have KG:=KT.trans kk;obtain⟨yG',epG'⟩:=hpk.lst;have oG:∀a,new K G' a->new K H a:=λa n=>fB KG epG' n;obtain⟨yT,epT⟩:=hpT.lst;have laI:=(lak.fr (Fr.ext xI)).old (λa n=>fB KT epT n);have hMI:=xI.at hMk;have hDI:=(bX (.tup [rv,V.int last,V.ref M,V.int (A0.length + more),V.ref D]) nI).at hD;have alI:=(al.ext (bX (.tup [rv,V.int last,V.ref M,V.int (A0.length + more),V.ref D]) nI)).pN oG;have Wz:ir K (upd H13 I (.tup [rv,V.int last,V.ref M,V.int (A0.length + more),V.ref D])) rv a b c pl:=by
   obtain⟨R,e,h⟩:=Wx;exact⟨R,e,xI.tup (kk.tup epT h)⟩
 have hpI:=hpk.ext xI;have KI:=KG.trans xI.kp;generalize upd H13 I (.tup [rv,V.int last,V.ref M,V.int (A0.length + more),V.ref D])=GI at *;have Z5:aS K H GI (kq a b c pl last ms (A0.length + more) (qU A0 turn) t) (.ref I):=by
   obtain⟨R,e,h⟩:=Wz;unfold kq;exact aS.tt.mpr ⟨I,_,rfl,hI,ao.cons (aS.tt.mpr ⟨R,_,e,h,ao.cons (aS.ii.mpr rfl) (ao.cons (aS.ii.mpr rfl) (ao.cons (aS.ii.mpr rfl) (ao.cons (aS.ss.mpr rfl) ao.nil)))⟩) (ao.cons (aS.ii.mpr rfl) (ao.cons (aS.ll.mpr ⟨M,_,rfl,nMH,hMI,ao.ko ms⟩) (ao.cons (aS.ii.mpr rfl) (ao.cons (aS.ll.mpr ⟨D,_,rfl,oG D nD,hDI,alI⟩) ao.nil))))⟩
 clear hI hDI alI al hD Wz qf xI lak hMk hpk kk KG hR;rw[e12]
 ext
 intro D1 nD1;have y1:=bX (.lst [V.int 0]) nD1;refine⟨by omega,by omega,by omega,by omega,λD2 nD2=>?_⟩;refine lW (λi acc σ G=>NF λ(v0:Option V) (ks:List Int)=>V6 (uy σ [v0]) (acc=ks.map V.int) (ks.length<=i) (∀k∈ks,0<=k/\k < 10 ^ 12) (G D2=some (.lst acc)) (Kp K D2 (upd (upd GI D1 (.lst [V.int 0])) D2 (.lst [])) G)) ⟨_,[],rfl,rfl,ar _,λ_ h=>absurd h List.not_mem_nil,af,Kp.refl⟩ ?_ ?_
 . rintro i acc σ G fF ⟨v0,ks,rfl,rfl,lk,hk,hS,kS⟩;have h26:i < 26:=QR
   ext
   refine ju (λc1=>ju (λc2=>?_) (λc2=>⟨_,ks,rfl,rfl,by omega,hk,hS,kS⟩)) (λc1=>⟨_,ks,rfl,rfl,by omega,hk,hS,kS⟩);exact⟨hS,by rw[ab];omega,_,ks++[bs - 1 + i],rfl,by rw[bo];rfl,by rw[ax];simp;omega,λk Cg=>(by rcases da.mp Cg with h | h;exact hk k h;rw[cw.mp h];omega),trivial,kS.trans (Kp.upd hS)⟩
 rintro acc σ G ⟨v0,ks,rfl,rfl,lk,hk,hS,kS⟩;have y2:=y1.trans (kS.ext nD2);refine⟨_,(kS.ext nD2).at af,_,hS,by rw[ab];simp;omega,λD3 nD3=>⟨0::ks,aR.of af,by simp;omega,λKd keys nKd upk memk lkk=>?_⟩⟩;have y3:=y2.trans ((Ext.new (o:=.lst ([V.int 0]++ks.map V.int)) nD3).trans (Ext.new (o:=.lst (keys.map V.int)) nKd));have WA:upd (upd G D3 (.lst ([V.int 0]++ks.map V.int))) Kd (.lst (keys.map V.int)) Kd=some (.lst (keys.map V.int)):=af;have Z6:new K GI Kd:=bL (y2.trans (Ext.new (o:=.lst ([V.int 0]++ks.map V.int)) nD3)) nKd;have e3:[V.int 0]++ks.map V.int=V.int 0::ks.map V.int:=rfl;rw[e3]at y3 WA;rw[e13]
 ext
 intro W nW;generalize upd (upd G D3 (.lst (V.int 0::ks.map V.int))) Kd (.lst (keys.map V.int))=GK at *;have yW:=Ext.Z1 (K:=K) (o:=.dK []) (o':=.dK [(.inr "image",V.ref I),(.inr "top",V.ref t.a),(.inr "keys",V.ref Kd),(.inr "marks",V.ref M),(.inr "base",V.int bs)]) nW;have Y:=y3.trans yW;have acq:0 < A0.length:=by rw[<- eA,dj,g7];simp
 obtain⟨yI,epI⟩:=hpI.lst;have oI:∀a,new K GI a->new K H a:=λa n=>fB KI epI n;refine q W M (.ref I) keys ms bs t _ a b c pl f last (A0.length + more) (qU A0 turn) _ ⟨⟨Kd,af,yW.at WA,oI Kd Z6⟩,oI W (bL y3 nW),Z5.ext Y,laI.fr (Fr.ext Y),Y.at hMI,nMH⟩ sg (λk Cg=>?_) ?_ ⟨ro,f3,ok,hla,up,lms,hms,by rw[eA];exact Ic nd,λx hx=>?_,by omega⟩ (hpI.ext Y) (KI.trans Y.kp)
 . rcases List.mem_cons.mp ((memk k).mp Cg)with h | h
   . rw[h];decide
   . exact hk k h
 . rw[List.length_cons]at lkk;omega
 . have:=Ib (turn:=turn) (l:=A0) (by rw[<- eA];exact hx);omega
def Oc (K:Frag)(H:Hp)(v:V)(e:Nt):Prop:=∃a u,v=.ref a/\tupQ K H a=some [.int e.n,.int e.lo,.int e.hi,u]
theorem Oc.ext {v:V}{e:Nt}(h:Oc K H v e)(x:Ext K H H'):Oc K H' v e:=by
 obtain⟨a,u,rfl,h⟩:=h;exact⟨a,u,rfl,x.tup h⟩
theorem LF {v:V}{e:Nt}(h:aS K H0 H e.d v):Oc K H v e:=by
 obtain⟨a,b,u1,u2,rfl,h1,_⟩:=Lk h;exact⟨a,_,rfl,h1⟩
def pQ (K:Frag)(H:Hp)(L:List (V×Nt)):Prop:=∀q∈L,Oc K H q.1 q.2
theorem pQ.ext {L:List (V×Nt)}(h:pQ K H L)(x:Ext K H H'):pQ K H' L:=λq hq=>(h q hq).ext x
def Nt.has (e:Nt)(k:Int):Bool:=decide (e.lo<=k)&&decide (k < e.hi)
def Nt.XH (e e':Nt):Bool:=decide (e.lo < e'.hi)&&decide (e'.lo < e.hi)
inductive DT (K:Frag)(vs:List V)(H:Hp)(Q:VK)(E9:XK):Prop
 | mk (v e k:_) (_:vs=[v,.int k]) (_:Oc K H v e) (_:Q (.bl (e.has k)) H)
include B in
theorem DU (F:bQ K "has_key" "has_key" yP f fd):(!0) 1 f fd ["note","key"] (DT K):=by
 exists 0,["note","key"]
 obtain⟨v,e,k,rfl,⟨a,u,rfl,h⟩,q⟩:=h;refine⟨_,(aE (aN (RJ (C0 (om (mA fX)) (mA iN) (jm (iq bg)) lE (iq bg))))),?_⟩;simp_arith [aQ h];unfold Nt.has at q;split
 . rename_i c
   rw[Dx c]at q;exact q
 . rename_i c
   rw[Ha c]at q;exact q
inductive Pj (K:Frag)(vs:List V)(H:Hp)(Q:VK)(E9:XK):Prop
 | mk (v v' e e':_) (_:vs=[v,v']) (_:Oc K H v e) (_:Oc K H v' e') (_:Q (.bl (e.XH e')) H)
include B in
theorem vU (F:bQ K "have_common" "have_common" oU f fd):(!0) 1 f fd ["note","other"] (Pj K):=by
 exists 0,["note","other"]
 obtain⟨v,v',e,e',rfl,⟨a,u,rfl,h⟩,⟨a',u',rfl,h'⟩,q⟩:=h;refine⟨_,(aE (aN (Az (eE (jm (fE (mA iN) (iq bg) (iq cF) (aF _))) (gA (fE (mA iN) (iq cF) (iq bg) (aF _))))))),?_⟩;simp_arith [aQ h,aQ h'];unfold Nt.XH at q;split
 . rename_i c
   rw[Dx c]at q;exact q
 . rename_i c
   rw[Ha c]at q;exact q
def Ben (L M:List (V×Nt)):Prop:=∀q∈L,∀q'∈M,q.2.XH q'.2=true->q.2.n < q'.2.n
inductive LG (K:Frag)(vs:List V)(H:Hp)(Q:VK)(E9:XK):Prop
 | mk (D1 D2 L M:_) (_:vs=[.ref D1,.ref D2]) (_:H D1=some (.lst (L.map (·.1)))) (_:H D2=some (.lst (M.map (·.1)))) (_:pQ K H L) (_:pQ K H M) (_:L.length<=100) (_:M.length<=100) (_:Ben L M) (_:∀H',Ext K H H'->Q (.bl true) H')
include B in
theorem vV (F:bQ K "are_beneath" "are_beneath" o6 f fd)(jz:⋯ "have_common" 1 ["note","other"] (Pj K)):(!0) 2 f fd ["notes","others"] (LG K):=by
 exists 0,["notes","others"]
 obtain⟨D1,D2,L,M,rfl,h1,h2,h3,h4,l1,l2,bn,q⟩:=h;refine⟨_,(aE (aN (bW (HF (cB rfl)) rfl B.all gy (aa (YI (ck [ "note","other","others" ] [none,none,some 1]) rfl (j5 (bU cG)) (λ_ _ _ _=>(gn 0 nk)) (λ_ _ _ _=>c6) (λ_ _ _ _=>(j5 (JZ K HN))) (λ_ _ _ _=>(gn 1 nk)) (λ_ _ _ _=>(zC (dG (ec jz hr (aa bg (aa cF ah)))))) (λ_ _ _ _=>(fE (mA iN) (Le K bg) (Le K cF) (aF _)))) ah)))),?_⟩
 ext
 refine⟨⟨_,aR.of h1⟩,λD nD=>?_⟩;refine uu (xs:=L.map (·.1)) (λi acc σ' H'=>∃(v0 v1:Option V) (m:Nat),σ'=[v0,v1,some (V.ref D2)]/\acc=(List.replicate m true).map V.bl/\m<=i * 100/\H' D=some (.lst acc)/\Kp K D (upd H D (.lst [])) H') ⟨_,_,0,rfl,rfl,ar _,af,Kp.refl⟩ ?_ ?_ ?_
 . rintro i acc σ' H' _ ⟨v0,v1,m,rfl,_,_,_,k⟩;exact aR.of ((k.ext nD).at h1)
 . rintro i x acc σ' H' hx ⟨v0,v1,m,rfl,rfl,lm,hD,k⟩;rw[bb]at hx;obtain⟨q1,hq1,rfl⟩:=bj.mp hx;have hi:i < L.length:=(bc.mp hq1).1;have m1:=ba hq1;have h2':=(k.ext nD).at h2
   ext
   refine⟨⟨_,aR.of h2'⟩,?_⟩;refine uu (xs:=M.map (·.1)) (λj acc σ' H'=>∃(v1:Option V) (m:Nat),σ'=[some q1.1,v1,some (V.ref D2)]/\acc=(List.replicate m true).map V.bl/\m<=i * 100 + j/\H' D=some (.lst acc)/\Kp K D (upd H D (.lst [])) H') ⟨_,m,rfl,rfl,by omega,hD,k⟩ ?_ ?_ ?_
   . rintro j acc σ' H' _ ⟨v1,m,rfl,_,_,_,k⟩;exact aR.of ((k.ext nD).at h2)
   . rintro j x acc σ' H2 hx ⟨v1,m,rfl,rfl,lm,hD,k⟩;rw[bb]at hx;obtain⟨q2,hq2,rfl⟩:=bj.mp hx;have hj:j < M.length:=(bc.mp hq2).1;have m2:=ba hq2;have n1:=(h3 q1 m1).ext (k.ext nD);have n2:=(h4 q2 m2).ext (k.ext nD)
     ext
     refine⟨q1.1,q2.1,q1.2,q2.2,rfl,n1,n2,_,rfl,?_⟩;cases hc:q1.2.XH q2.2 with
     | false=>exact aJ RR ⟨m,rfl,by omega,hD,k⟩
     | true=>
       obtain⟨a1,u1,e1,g1⟩:=n1;obtain⟨a2,u2,e2,g2⟩:=n2;rw[e1,e2];simp_arith [aQ g1,aQ g2];rw[Dx (bn q1 m1 q2 m2 hc)];exact⟨hD,by rw[ab,pb];omega,m + 1,by rw[vk,bo];rfl,by omega,k.trans (Kp.upd hD)⟩
   . rintro acc σ' H2 ⟨v1,m,rfl,rfl,lm,hD,k⟩;rw[ab]at lm;exact⟨_,_,rfl,m,rfl,by omega,hD,k⟩
 . rintro acc σ' H' ⟨v0,v1,m,rfl,rfl,lm,hD,k⟩;refine⟨_,aR.of hD,?_⟩;rw[all_true];exact q _ (k.ext nD)
inductive Fp (K:Frag)(vs:List V)(H:Hp)(Q:VK)(E9:XK):Prop
 | mk (D L:_) (_:vs=[.ref D]) (_:H D=some (.lst (L.map (·.1)))) (_:pQ K H L) (_:L.length<=60) (_:(L.map λq=>q.2.n).Pairwise (· < ·)) (_:∀H',Ext K H H'->Q (.bl true) H')
include B in
theorem DV (F:bQ K "is_tray" "is_tray" yR f fd)(dX:⋯ "are_beneath" 2 ["notes","others"] (LG K)):(!0) 3 f fd ["notes"] (Fp K):=by
 exists 0,["notes"]
 obtain⟨D,L,rfl,h1,h2,l1,up,q⟩:=h;refine⟨_,(aE (aN (bW (HF (cB rfl)) rfl B.all gy (aa (qe (ck [ "place","note","notes" ] [none,none,some 0]) rfl (ieM (OR rfl B.enumerate (am (aa bg ah)))) (λ_ _ _ _=>(lA (iT K (n:=2) rfl (ay (gn 0 nk) (ay (gn 1 nk) dR))))) (λ_ _ _ _=>c6) (λ_ _ _ _=>(ec dX hr (aa (Zi (JX K (am (aa cF ah)))) (aa (zv (GV (K:=K)) fC (A5 (cA (mA bw) bg ei)) Jx) ah))))) ah)))),?_⟩
 ext
 refine⟨⟨_,aR.of h1⟩,λD' nD=>?_⟩;refine Nf (xs:=L.map (·.1)) (λi acc σ' H'=>∃(v0 v1:Option V),σ'=[v0,v1,some (V.ref D)]/\acc=(List.replicate i true).map V.bl/\H' D'=some (.lst acc)/\Kp K D' (upd H D' (.lst [])) H') ⟨_,_,rfl,rfl,af,Kp.refl⟩ ?_ ?_ ?_
 . rintro i acc σ' H' _ ⟨v0,v1,rfl,_,_,k⟩;exact aR.of ((k.ext nD).at h1)
 . rintro i x acc σ' H1 T hx ⟨v0,v1,rfl,rfl,hD,k⟩ nT;rw[bb]at hx;obtain⟨q1,hq1,rfl⟩:=bj.mp hx;have hi:i < L.length:=(bc.mp hq1).1;have m1:=ba hq1
   ext
   intro p1 n1;have y1:=(bX (.tup [V.int i,q1.1]) nT).trans (Ext.new (o:=.lst [q1.1]) n1);have yk:=(k.ext nD).trans y1;refine⟨_,aR.of (yk.at h1),λp2 n2=>?_⟩;have y2:=y1.trans (Ext.new (o:=.lst ((L.drop (i + 1)).map (·.1))) n2);have yk2:=(k.ext nD).trans y2;rw[show rN (L.map (·.1)) (some ((i:Int) + 1)) none=(L.drop (i + 1)).map (·.1) from by rw[show((i:Int) + 1)=((i + 1:Nat):Int) from rfl,rS,xl]];refine⟨p1,p2,[q1],L.drop (i + 1),rfl,(Ext.new (K:=K) n2).at af,af,λx hx=>?_,λx hx=>(h2 x (List.mem_of_mem_drop hx)).ext yk2,by simp,by rw[i5];omega,λx hx y hy _=>?_,λH4 x4=>⟨(y2.trans x4).at hD,by rw[ab,pb];omega,?_,k.trans ((y2.trans x4).kp.trans (Kp.upd ((y2.trans x4).at hD)))⟩⟩
   . rw[cw.mp hx];exact(h2 q1 m1).ext yk2
   . rw[cw.mp hx];obtain⟨j,hj,ej⟩:=fv.mp hy;rw[i5]at hj;rw[xn]at ej;have:=mN.mp up i (i + 1 + j) (by rw[ab];exact hi) (by rw[ab];omega) QR;rw[List.getElem_map,List.getElem_map]at this;obtain⟨_,e1⟩:=bc.mp hq1;rw[e1,ej]at this;exact this
   . show _=List.map V.bl (true::List.replicate i true);rw[<- List.replicate_succ,vk,bo];rfl
 . rintro acc σ' H' ⟨v0,v1,rfl,rfl,hD,k⟩;refine⟨_,aR.of hD,?_⟩;rw[all_true];exact q _ (k.ext nD)
inductive BO (K:Frag)(vs:List V)(H:Hp)(Q:VK)(E9:XK):Prop
 | mk (D L lo hi last:_) (_:vs=[.ref D,.int lo,.int hi,.int last]) (_:H D=some (.lst (L.map (·.1)))) (_:pQ K H L) (_:L.length<=100) (_:(∀q∈L,lo<=q.2.lo/\q.2.hi<=hi/\q.2.n<=last)) (_:∀H',Ext K H H'->Q (.bl true) H')
include B in
theorem xy (F:bQ K "are_within" "are_within" qN f fd):(!0) 1 f fd ["notes","low","high","last"] (BO K):=by
 exists 0,["notes","low","high","last"]
 obtain⟨D,L,lo,hi,last,rfl,h1,h2,l1,Vz,q⟩:=h;refine⟨_,(aE (aN (bW (HF (cB rfl)) rfl B.all gy (aa (qe (ck [ "note","low","high","last" ] [none,some 1,some 2,some 3]) rfl (j5 (bU cG)) (λ_ _ _ _=>(gn 0 nk)) (λ_ _ _ _=>c6) (λ_ _ _ _=>(Az (eE (jm (fE (mA fX) cF (Le K bg) (aF _))) (Az (eE (jm (fE (mA fX) (Le K bg) fC (aF _))) (gA (fE (mA fX) (Le K bg) gB (aF _))))))))) ah)))),?_⟩
 ext
 refine⟨⟨_,aR.of h1⟩,λD' nD=>gf (L:=L) (f:=λq=>q.1) (g:=λ_=>V.bl true) (aR.of h1) nD QR (λx hx H' Q' xx qq=>?_) (λH1 hD x1=>?_)⟩
 . obtain⟨a,u,e,g⟩:=(h2 x hx).ext xx;obtain⟨c1,c2,c3⟩:=Vz x hx;rw[e];simp_arith [aQ g];rw[Fh c1,Fh c2,Dx c3];exact qq _ Ext.refl
 . rw[all_map]at hD;refine⟨_,aR.of hD,?_⟩;rw[all_true];exact q _ x1
theorem qV (xs:List V)(v:V):kZ (xs++[v]) (-1)=some v:=by
 unfold kZ CM;rw[Ee RF,Fh (by rw[ax];simp;omega)];have:((-1:Int) + ((xs++[v]).length:Int)).toNat=xs.length:=by rw[ax];simp;omega
 rw[this];simp
inductive LH (K:Frag)(vs:List V)(H:Hp)(Q:VK)(E9:XK):Prop
 | mk (v r H0 D L last:_) (_:vs=[v,.ref D,.int last]) (_:aS K H0 H (fk r) v) (_:r.2≠[]) (_:H D=some (.lst (L.map (·.1)))) (_:pQ K H L) (_:L.length<=100) (_:(∀p∈r.2,p.1<=last/\∀q∈L,p.1 < q.2.n)) (_:∀H',Ext K H H'->Q (.bl true) H')
include B in
theorem qW (F:bQ K "is_row_beneath" "is_row_beneath" jN f fd)(iK:⋯ "has_key" 1 ["note","key"] (DT K)):(!0) 2 f fd ["row","notes","last"] (LH K):=by
 exists 0,["row","notes","last","key","versions","number"]
 obtain⟨v,r,H0,D,L,last,rfl,o9,hne,h1,h2,l1,Vz,q⟩:=h;obtain⟨a,B',us,rfl,g1,g2,g3⟩:=j8 o9;refine⟨_,(ak (iS bg (lA (dD (n:=2) rfl (ay (EC (i:=3) nk rfl (Or.inr rfl)) (ay (gn 4 nk) dR))))) (ak (sset (i:=5) nk rfl (Or.inr rfl) (iq (tV (uw jv) nH (Q5 pH ei) (λ_ _=>rfl)))) (aE (aN (Az (eE (jm (fE (mA fX) tZ fC (aF _))) (gA (bW (HF (cB rfl)) rfl B.all gy (aa (qe (ck [ "note","number","key" ] [none,some 5,some 3]) rfl (j5 (bU lE)) (λ_ _ _ _=>(gn 0 nk)) (λ_ _ _ _=>(zC (dG (ec iK hr (aa bg (aa fC ah)))))) (λ_ _ _ _=>(fE (mA iN) cF (Le K bg) (aF _)))) ah))))))))),?_⟩
 ext
 obtain⟨M,e1,e2,hM⟩:=ao.zip g3;obtain⟨M0,z,eM⟩:∃M0 z,M=M0++[z]:=by
   rcases mn M with h | ⟨M0,z,h⟩
   . rw[h]at e2;exact absurd e2 hne
   . exact⟨M0,z,by rw[h,va]⟩
 have zM:z∈M:=by rw[eM];simp
 obtain⟨t',ez,gz⟩:=nJ (hM z zM);obtain⟨c1,c2⟩:=Vz z.2 (by rw[e2];exact eP zM);refine⟨_,g1,rfl,_,_,rfl,_,_,rfl,rfl,B',rfl,_,aI g2,_,(by rw[e1,eM,bo];exact qV _ _),t',ez,_,aQ gz,_,rfl,_,rfl,bq c1 ⟨⟨_,aR.of h1⟩,λD' nD=>?_⟩⟩;refine iF (xs:=L.map (·.1)) (λi acc σ' H'=>∃(v0:Option V) (m:Nat),σ'=[v0,some (V.int z.2.1),some (V.int r.1)]/\acc=(List.replicate m true).map V.bl/\m<=i/\H' D'=some (.lst acc)/\Kp K D' (upd H D' (.lst [])) H') ⟨_,0,rfl,rfl,ar _,af,Kp.refl⟩ ?_ ?_ ?_
 . rintro i acc σ' H' _ ⟨v0,m,rfl,_,_,_,k⟩;exact aR.of ((k.ext nD).at h1)
 . rintro i x acc σ' H' hx ⟨v0,m,rfl,rfl,lm,hD,k⟩;rw[bb]at hx;obtain⟨q1,hq1,rfl⟩:=bj.mp hx;have hi:i < L.length:=(bc.mp hq1).1;have m1:=ba hq1;have n1:=(h2 q1 m1).ext (k.ext nD)
   ext
   refine⟨q1.1,q1.2,_,rfl,n1,_,rfl,?_⟩;cases hc:q1.2.has r.1 with
   | false=>exact aJ RR ⟨m,rfl,by omega,hD,k⟩
   | true=>
     obtain⟨a1,u1,ea,ga⟩:=n1;rw[ea];simp_arith [aQ ga];rw[Dx (c2 q1 m1)];exact⟨hD,by rw[ab,pb];omega,m + 1,by rw[vk,bo];rfl,by omega,k.trans (Kp.upd hD)⟩
 . rintro acc σ' H' ⟨v0,m,rfl,rfl,lm,hD,k⟩;refine⟨_,aR.of hD,?_⟩;rw[all_true];exact q _ (k.ext nD)
def oK (rv:V)(last fresh:Int)(bG kn:Addr)(fl:V):List (Str×V):=[(("rule":Str),rv),(("last":Str),.int last),(("fresh":Str),.int fresh),(("due":Str),.ref bG),(("known":Str),.ref kn),(("floors":Str),fl)]
theorem Z7:¬ (("rule":Str)="last"):=Q1
theorem r_f:¬ (("rule":Str)="fresh"):=Q1
theorem Z8:¬ (("rule":Str)="due"):=Q1
theorem r_k:¬ (("rule":Str)="known"):=Q1
theorem Z9:¬ (("rule":Str)="floors"):=Q1
theorem l_f:¬ (("last":Str)="fresh"):=Q1
theorem l_d:¬ (("last":Str)="due"):=Q1
theorem l_k:¬ (("last":Str)="known"):=Q1
theorem l_o:¬ (("last":Str)="floors"):=Q1
theorem f_d:¬ (("fresh":Str)="due"):=Q1
theorem f_k:¬ (("fresh":Str)="known"):=Q1
theorem f_o:¬ (("fresh":Str)="floors"):=Q1
theorem d_k:¬ (("due":Str)="known"):=Q1
theorem d_o:¬ (("due":Str)="floors"):=Q1
theorem k_o:¬ (("known":Str)="floors"):=Q1
structure Od (K:Frag)(c:Addr):Prop where
 cl:uo K c
 rule:bK K c "rule"
 last:bK K c "last"
 fresh:bK K c "fresh"
 bG:bK K c "due"
 known:bK K c "known"
 Ad:bK K c "floors"
structure mR (K:Frag)(H:Hp)(c s dx:Addr)(rv:V)(last fresh:Int)(bG:Addr)(ds:List V)(kn:Addr)(aA:List (Key×V))(fl:V):Prop where
 ins:H s=some (.ins c dx (oK rv last fresh bG kn fl))
 bG:H bG=some (.lst ds)
 kn:H kn=some (.dK aA)
inductive BP (K:Frag)(c:Addr)(vs:List V)(H:Hp)(Q:VK)(E9:XK):Prop
 | mk (x dx rv last fresh:_) (_:vs=[.ref x,rv,.int last,.int fresh]) (_:H x=some (.ins c dx [])) (_:∀bG kn T E H',(∀a∈[bG,kn,E],new K H a/\a≠x)->mR K H' c x dx rv last fresh bG [.ref T] kn [] .bO->tupQ K H' T=some [.bO,.int 0,.int 1000000000000,.ref E]->H' E=some (.lst [])->bG≠kn->bG≠E->kn≠E->Kp K x H H'->Q .bO H')
include B in
theorem pR (F:bQ K "__init__" "Survey.__init__" bT f fd)(SV:Od K av):(!0) 1 f fd ["self","rule","last","fresh"] (BP K av):=by
 exists 0,["self","rule","last","fresh"]
 obtain⟨x,dx,rv,last,fresh,rfl,hx,q⟩:=h;refine aq (rest:=(aj bT).drop 5) (aE (tX (ie cG (jm iQ)))) λr5 J5 e5=>?_;refine aq (rest:=(aj bT).drop 4) (ak (tX (ie cG (jm Ks))) J5) λr4 J4 e4=>?_;refine aq (rest:=(aj bT).drop 3) (ak (tX (ie cG (jm (jx (aa (oR (aa iQ (aa ei (aa (iR rfl B.Wd B.vD) (aa (jx ah) ah))))) ah))))) J4) λr3 J3 e3=>?_;refine aq (rest:=(aj bT).drop 2) (ak (tX (ie cG Td)) J3) λr2 J2 e2=>?_;refine aq (rest:=(aj bT).drop 1) (ak (tX (ie cG HN)) J2) λr1 J1 e1=>?_;refine⟨_,(ak (tX (ie cG lE)) J1),?_⟩
 ext
 refine⟨_,_,_,hx,SV.cl,SV.rule,by decide,?_⟩;have h1:=af (H:=H) (a:=x) (o:=.ins av dx (bC "rule" rv []));have k1:Kp K x H (upd H x (.ins av dx (bC "rule" rv []))):=Kp.gF hx;generalize upd H x (.ins av dx (bC "rule" rv []))=G1 at *;rw[e1]
 ext
 refine⟨_,_,_,h1,SV.cl,SV.last,by simp[bC],?_⟩;have h2:=af (H:=G1) (a:=x) (o:=.ins av dx (bC "last" (.int last) (bC "rule" rv [])));have k2:Kp K x H (upd G1 x (.ins av dx (bC "last" (.int last) (bC "rule" rv [])))):=k1.trans (Kp.gF h1);generalize upd G1 x (.ins av dx (bC "last" (.int last) (bC "rule" rv [])))=G2 at *;rw[e2]
 ext
 refine⟨_,_,_,h2,SV.cl,SV.fresh,by simp[bC,Z7],?_⟩;have h3:=af (H:=G2) (a:=x) (o:=.ins av dx (bC "fresh" (.int fresh) (bC "last" (.int last) (bC "rule" rv []))));have k3:Kp K x H (upd G2 x (.ins av dx (bC "fresh" (.int fresh) (bC "last" (.int last) (bC "rule" rv []))))):=k2.trans (Kp.gF h2);have p3:bC "fresh" (.int fresh) (bC "last" (.int last) (bC "rule" rv []))=[(("rule":Str),rv),(("last":Str),.int last),(("fresh":Str),.int fresh)]:=by simp only[bC,Z7,r_f,l_f,FR]
 rw[p3]at h3 k3 ⊢;generalize upd G2 x (.ins av dx [(("rule":Str),rv),(("last":Str),.int last),(("fresh":Str),.int fresh)])=G3 at *;rw[e3]
 ext
 intro E' nE T nT bG nd;have y1:=bX (.lst []) nE;have y2:=bX (.tup [V.bO,V.int 0,V.int 1000000000000,V.ref E']) nT;have y3:=bX (.lst [V.ref T]) nd;have Y:=y1.trans (y2.trans y3);have hE:=(y2.trans y3).at (af (H:=G3) (a:=E') (o:=.lst []));have hT:tupQ K _ T=_:=y3.tup (aK (H:=upd G3 E' (.lst [])) (a:=T) (xs:=[V.bO,V.int 0,V.int 1000000000000,V.ref E']));have hd:=af (H:=upd (upd G3 E' (.lst [])) T (.tup [V.bO,V.int 0,V.int 1000000000000,V.ref E'])) (a:=bG) (o:=.lst [V.ref T]);have h4:=Y.at h3;have k4:=k3.trans Y.kp;have xo:∀a,new K G3 a->new K H a/\a≠x:=λa n=>⟨fB k3 h3 n,λz=>by rw[z]at n;rw[n.1]at h3;cases h3⟩
 have nE3:=xo E' nE;have nd3:=xo bG (bL (y1.trans y2) nd);have dE:E'≠bG:=aH (y2.at (af (H:=G3) (a:=E') (o:=.lst []))) nd.1;generalize upd (upd (upd G3 E' (.lst [])) T (.tup [V.bO,V.int 0,V.int 1000000000000,V.ref E'])) bG (.lst [V.ref T])=G4 at *;refine⟨_,_,_,h4,SV.cl,SV.bG,by simp,?_⟩;have p5:bC "due" (.ref bG) [(("rule":Str),rv),(("last":Str),.int last),(("fresh":Str),.int fresh)]=[(("rule":Str),rv),(("last":Str),.int last),(("fresh":Str),.int fresh),(("due":Str),.ref bG)]:=by simp only[bC,Z8,l_d,f_d,FR]
 rw[p5];have h5:=af (H:=G4) (a:=x) (o:=.ins av dx [(("rule":Str),rv),(("last":Str),.int last),(("fresh":Str),.int fresh),(("due":Str),.ref bG)]);have k5:Kp K x H (upd G4 x (.ins av dx [(("rule":Str),rv),(("last":Str),.int last),(("fresh":Str),.int fresh),(("due":Str),.ref bG)])):=k4.trans (Kp.gF h4);have WB:upd G4 x (.ins av dx [(("rule":Str),rv),(("last":Str),.int last),(("fresh":Str),.int fresh),(("due":Str),.ref bG)]) E'=some (.lst []):=by rw[au nE3.2];exact hE
 have hd5:upd G4 x (.ins av dx [(("rule":Str),rv),(("last":Str),.int last),(("fresh":Str),.int fresh),(("due":Str),.ref bG)]) bG=some (.lst [V.ref T]):=by rw[au nd3.2];exact hd
 have tx:T≠x:=λz=>by rw[z]at hT;unfold tupQ at hT;rw[h4]at hT;cases hT
 have WC:tupQ K (upd G4 x (.ins av dx [(("rule":Str),rv),(("last":Str),.int last),(("fresh":Str),.int fresh),(("due":Str),.ref bG)])) T=some [V.bO,V.int 0,V.int 1000000000000,V.ref E']:=by rw[qv tx];exact hT
 generalize upd G4 x (.ins av dx [(("rule":Str),rv),(("last":Str),.int last),(("fresh":Str),.int fresh),(("due":Str),.ref bG)])=G5 at *;rw[e4]
 ext
 intro kn nk;have y6:=bX (.dK []) nk;have h6:=y6.at h5;have hk6:=af (H:=G5) (a:=kn) (o:=.dK []);have nk5:new K H kn/\kn≠x:=⟨fB k5 h5 nk,λz=>by rw[z]at nk;rw[nk.1]at h5;cases h5⟩
 have dk:bG≠kn:=aH hd5 nk.1;have Ek:E'≠kn:=aH WB nk.1;have k6:=k5.trans y6.kp;have hE6:=y6.at WB;have hd6:=y6.at hd5;have hT6:=y6.tup WC;generalize upd G5 kn (.dK [])=G6 at *;refine⟨_,_,_,h6,SV.cl,SV.known,by simp,?_⟩;have p7:bC "known" (.ref kn) [(("rule":Str),rv),(("last":Str),.int last),(("fresh":Str),.int fresh),(("due":Str),.ref bG)]=[(("rule":Str),rv),(("last":Str),.int last),(("fresh":Str),.int fresh),(("due":Str),.ref bG),(("known":Str),.ref kn)]:=by simp only[bC,r_k,l_k,f_k,d_k,FR]
 rw[p7];have h7:=af (H:=G6) (a:=x) (o:=.ins av dx [(("rule":Str),rv),(("last":Str),.int last),(("fresh":Str),.int fresh),(("due":Str),.ref bG),(("known":Str),.ref kn)]);rw[e5]
 ext
 refine⟨_,_,_,rfl,SV.cl,SV.Ad,by simp,?_⟩;have p8:bC "floors" .bO [(("rule":Str),rv),(("last":Str),.int last),(("fresh":Str),.int fresh),(("due":Str),.ref bG),(("known":Str),.ref kn)]=oK rv last fresh bG kn .bO:=by simp only[bC,Z9,l_o,f_o,d_o,k_o,FR,oK]
 rw[p8,iD];refine q bG kn T E' _ (λa ha=>?_) ⟨af,by rw[au nd3.2];exact hd6,by rw[au nk5.2];exact hk6⟩ (by rw[qv tx];exact hT6) (by rw[au nE3.2];exact hE6) dk dE.symm Ek.symm (k6.trans (Kp.gF h6));simp only[List.mem_cons,List.not_mem_nil,Fm]at ha;rcases ha with rfl | rfl | rfl
 . exact nd3
 . exact nk5
 . exact nE3
theorem bf {a b:Str}(h:¬ (a=b)):(b==a)=false:=by simpa using λe:b=a=>h e.symm
section
variable {fresh:Int}
theorem Fq:List.lookup ("rule":Str) (oK rv last fresh bG kn fl)=some rv:=by simp only[oK,List.lookup,Fn]
theorem Ft:List.lookup ("last":Str) (oK rv last fresh bG kn fl)=some (.int last):=by simp only[oK,List.lookup,Fn,bf Z7]
theorem LI:List.lookup ("fresh":Str) (oK rv last fresh bG kn fl)=some (.int fresh):=by simp only[oK,List.lookup,Fn,bf r_f,bf l_f]
theorem Ae:List.lookup ("due":Str) (oK rv last fresh bG kn fl)=some (.ref bG):=by simp only[oK,List.lookup,Fn,bf Z8,bf l_d,bf f_d]
theorem BQ:List.lookup ("known":Str) (oK rv last fresh bG kn fl)=some (.ref kn):=by simp only[oK,List.lookup,Fn,bf r_k,bf l_k,bf f_k,bf d_k]
theorem yX:List.lookup ("floors":Str) (oK rv last fresh bG kn fl)=some fl:=by simp only[oK,List.lookup,Fn,bf Z9,bf l_o,bf f_o,bf d_o,bf k_o]
end
inductive Pk (K:Frag)(c:Addr)(vs:List V)(H:Hp)(Q:VK)(E9:XK):Prop
 | mk (s dx rv last fresh bG ds kn aA fl n o:_) (_:vs=[.ref s,.int n,on o]) (_:mR K H c s dx rv last fresh bG ds kn aA fl) (_:(o=none∨o=some n)) (_:0<=n) (_:n < fresh) (_:dO aA (.inl n)=none) (_:∀H',Ext K H H'->Q (.bl true) H')
include B in
theorem pS (F:bQ K "may_have" "Survey.may_have" jn f fd)(SV:Od K av)(bM:⋯ "is_whole" 2 ["thing","low","high"] mJ):(!0) 3 f fd ["self","number","due"] (Pk K av):=by
 exists 0,["self","number","due"]
 obtain⟨s,dx,rv,last,fresh,bG,ds,kn,aA,fl,n,o,rfl,sv,ho,n0,n1,nv,q⟩:=h;refine⟨_,(aE (aN (Az (eE (jm (fE C2 fC (oR (aa iQ (aa cF ah))) SF)) (eE (ec bM hr (aa cF (aa ei (aa (cA (mA fW) (mq (eK cG)) ei) ah)))) (gA (fE (Hv hr.units) cF (mq (eK cG)) SF))))))),?_⟩
 ext
 intro T nT;have xT:=bX (.tup [V.bO,V.int n]) nT;have e1:Cf (on o) [V.bO,V.int n]=true:=by
   rcases ho with rfl | rfl
   . rfl
   . simp[Cf,on,Gwi]
 refine⟨by rcases ho with rfl | rfl <;> rfl,rfl,bq e1 ⟨_,_,_,xT.at sv.ins,SV.cl,SV.fresh,_,LI,_,rfl,some n,0,fresh - 1,rfl,_,rfl,bq (by unfold wO;exact Dx QR) ⟨_,_,_,xT.at sv.ins,SV.cl,SV.known,_,BQ,_,rfl,aA,xT.at sv.kn,?_⟩⟩⟩;rw[nv];exact q _ xT
inductive BR (K:Frag)(c:Addr)(vs:List V)(H:Hp)(Q:VK)(E9:XK):Prop
 | mk (s dx rv last fresh bG ds kn aA fl m:_) (_:vs=[.ref s,.int m]) (_:mR K H c s dx rv last fresh bG ds kn aA fl) (_:(fl=.bO∨fl=.int m)) (_:bG≠s) (_:kn≠s) (_:∀H',mR K H' c s dx rv last fresh bG ds kn aA (.int m)->Kp K s H H'->Q (.bl true) H')
include B in
theorem mS (F:bQ K "has_floors" "Survey.has_floors" iA f fd)(SV:Od K av):(!0) 1 f fd ["self","many"] (BR K av):=by
 exists 0,["self","many"]
 obtain⟨s,dx,rv,last,fresh,bG,ds,kn,aA,fl,m,rfl,sv,hf,ne1,ne2,q⟩:=h;refine⟨_,(U5 (gJ (cM (cg (om iO) (jm (mq (eK cG))) (jm iQ) (aF _))) (aE (tX (ie cG lE))) b8) (aE (aN (fE fq (mq (eK cG)) cF (aF _))))),?_⟩
 ext
 refine⟨λσ G=>σ=[some (V.ref s),some (V.int m)]/\mR K G av s dx rv last fresh bG ds kn aA (.int m)/\Kp K s H G,?_,?_⟩
 . ext
   refine⟨_,_,_,sv.ins,SV.cl,SV.Ad,_,yX,ju (λc=>?_) (λc=>?_)⟩
   . refine⟨_,_,_,sv.ins,SV.cl,SV.Ad,by simp[oK],?_⟩;have p8:bC "floors" (.int m) (oK rv last fresh bG kn fl)=oK rv last fresh bG kn (.int m):=by simp only[bC,Z9,l_o,f_o,d_o,k_o,FR,Md,oK]
     rw[p8];exact⟨⟨af,by rw[au ne1];exact sv.bG,by rw[au ne2];exact sv.kn⟩,Kp.gF sv.ins⟩
   . rcases hf with rfl | rfl
     . exact absurd rfl c
     . exact⟨sv,Kp.refl⟩
 . rintro σ G ⟨rfl,sv',k⟩
   ext
   refine⟨_,_,_,sv'.ins,SV.cl,SV.Ad,_,yX,?_⟩;exact⟨rfl,by rw[Dx rfl];exact q G sv' k⟩
theorem Oe {c:Addr}{rows:List (Int×List jq)}{g:Int×List jq->V}{rest:St}(hc:H c=some (.lst us))(al:ao K H0 H (rows.map fk) us)(nD:new K H D)(hz:rows.length<=1000)
   (elt:∀r∈rows,∀(B:Addr) (H':Hp) (Q':VK),Ext K H H'->(∀H'',Ext K H' H''->Q' (g r) H'')->te (some (.int r.1)::some (.ref B)::rest) H' Q')
   (fin:∀H',H' D=some (.lst (rows.map g))->Ext K H H'->Q H'):b7 (sQ K c) (qE K 2 (iy (cQ 0) (iy (cQ 1) wN))) pK te D Q (v0::v1::rest) (upd H D (.lst [])):=by
 obtain⟨L,e1,e2,hL⟩:=ao.zip al;have lL:L.length=rows.length:=by rw[e2,ab]
 refine iF (xs:=us) (λi acc σ' H'=>∃v0 v1,σ'=v0::v1::rest/\H' D=some (.lst acc)/\acc=(rows.take i).map g/\Kp K D (upd H D (.lst [])) H') ⟨_,_,rfl,af,rfl,Kp.refl⟩ ?_ ?_ ?_
 . rintro i acc σ' H' _ ⟨v0,v1,rfl,hD,_,k⟩;exact aR.of ((k.ext nD).at hc)
 . rintro i x acc σ' H' hx ⟨v0,v1,rfl,hD,rfl,k⟩;rw[e1,bb]at hx;obtain⟨q,hq,rfl⟩:=bj.mp hx;have xk:=k.ext nD;obtain⟨T0,B,ys,e3,h1,h2,h3⟩:=j8 ((hL q (ba hq)).ext xk);have er:rows[i]?=some q.2:=by rw[e2,bb,hq];rfl
   have hlen:((rows.take i).map g).length<=1000:=by rw[ab,fb];omega
   rw[e3];unfold pK;simp only[qE,↓Nx,iy,wN,cQ,List.set_cons_zero,List.set_cons_succ];refine⟨_,h1,rfl,_,_,rfl,_,_,rfl,rfl,?_⟩;rw[Fh trivial];refine elt q.2 (ba er) B H' _ xk λH'' x''=>?_;have mL:=x''.at hD;exact⟨mL,dt hlen RF,_,_,rfl,af,by rw[List.take_add_one,er,ip,bo];rfl,k.trans (x''.kp.trans (Kp.upd mL))⟩
 . rintro acc σ' H' ⟨v0,v1,rfl,hD,rfl,k⟩;rw[show us.length=rows.length from by rw[e1,ab,lL],dv]at hD;exact fin H' hD (k.ext nD)
inductive Fv (K:Frag)(c:Addr)(vs:List V)(H:Hp)(Q:VK)(E9:XK):Prop
 | mk (s dx rv last fresh bG ds kn aA fl a b r pl v H0 n l h lo hi rows D L:_) (_:vs=[.ref s,v,.int lo,.int hi,.ref D]) (_:mR K H c s dx rv last fresh bG ds kn aA fl) (_:ir K H rv a b r pl) (_:aS K H0 H (.tuple [.str "leaf",.int n,.list (List.map fk rows)]) v) (_:(l=lo/\h=hi)) (_:xm lo hi r rows) (_:H D=some (.lst (L.map (·.1)))) (_:pQ K H L) (_:L.length<=100) (_:(∀q∈L,40<=q.2.n)) (_:40<=last) (_:∀H',Ext K H H'->Q (.bl true) H')
include B in
theorem jS (F:bQ K "is_leaf_sound" "Survey.is_leaf_sound" gc f fd)(SV:Od K av)(gG:⋯ "is_row_beneath" 2 ["row","notes","last"] (LH K)):(!0) 3 f fd ["self","leaf","low","high","notes"] (Fv K av):=by
 exists 0,["self","leaf","low","high","notes","tray","fan","most","plan","rows"]
 obtain⟨s,dx,rv,last,fresh,bG,ds,kn,aA,fl,a,b,r,pl,v,H0,n,l,h',lo,hi,rows,D,L,rfl,sv,⟨R0,rfl,hR⟩,hv,_,rk,hD,hL,lL,nL,l40,q⟩:=h;obtain⟨T,us,rfl,hT,hu⟩:=aS.tt.mp hv;simp only[ao.cc,ao.nn,aS.ss,aS.ii,aS.ll]at hu;obtain⟨v1,r1,rfl,rfl,v2,r2,rfl,rfl,v3,r3,rfl,⟨Rw,ws,rfl,nR,hRw,al⟩,rfl⟩:=hu;refine⟨_,(ak (iS (mq (eK cG)) (lA (dD (n:=4) rfl (ay (gn 5 nk) (ay (gn 6 nk) (ay (gn 7 nk) (ay (gn 8 nk) dR))))))) (ak (ss 9 nk (iq cF)) (ak (gJ (tw (rR (cM (cg (om (mA AN)) (jm (t6 B.len O8)) jv7 (aF _))) (je (dZ (Ck (dG (jm (bW (HF (cB rfl)) rfl B.all gy (aa (qe (ck [ "key","versions","low","high" ] [none,none,some 2,some 3]) rfl (j5 (bU Zv)) (λ_ _ _ _=>(lA (iT K (n:=2) rfl (ay (gn 0 nk) (ay (gn 1 nk) dR))))) (λ_ _ _ _=>c6) (λ_ _ _ _=>(RJ (C0 (om (mA fX)) (mA iN) HN cG gB)))) ah))))))))) (aE (aN rQ)) b8) (aE (aN (bW (HF (cB rfl)) rfl B.all gy (aa (qe (ck [ "row","notes","self" ] [none,some 4,some 0]) rfl (j5 (bU Zv)) (λ_ _ _ _=>(gn 0 nk)) (λ_ _ _ _=>c6) (λ_ _ _ _=>(ec gG hr (aa bg (aa cF (aa (OT K fC) ah)))))) ah))))))),?_⟩;simp_arith [aQ hT];have lw:ws.length=rows.length:=by rw[al.len,ab]
 have rl:=rk.l;refine⟨_,_,_,sv.ins,SV.cl,SV.rule,_,Fq,R0,rfl,_,hR,rfl,_,_,rfl,_,_,rfl,_,_,rfl,_,_,rfl,rfl,_,aI hRw,r,rfl,aJ QR ⟨⟨_,aR.of hRw⟩,λD1 nD1=>?_⟩⟩;refine Oe (g:=λ_=>V.bl true) hRw al nD1 QR (λx hx B' H' Q' xx qq=>?_) (λH1 yS x1=>?_)
 . have:=rk.k x hx
   ext
   rw[Fh this.1,Dx this.2];exact qq _ Ext.refl
 rw[all_map]at yS;refine⟨_,aR.of yS,?_⟩;rw[all_true];refine aJ RR ⟨⟨_,aR.of (x1.at hRw)⟩,λD2 nD2=>?_⟩;obtain⟨M,e1,e2,hM⟩:=ao.zip al;have lM:M.length=rows.length:=by rw[e2,ab]
 rw[e1]at hRw;refine gf (L:=M) (f:=λq=>q.1) (g:=λ_=>V.bl true) (aR.of (x1.at hRw)) nD2 QR (λx hx H' Q' xx qq=>?_) (λH2 mL x2=>?_)
 . have y:=x1.trans xx;have OQ:x.2∈rows:=by rw[e2];exact eP hx
   ext
   refine⟨_,_,_,y.at sv.ins,SV.cl,SV.last,_,Ft,x.1,x.2,H0,D,L,last,rfl,(hM x hx).ext y,?_,y.at hD,hL.ext y,lL,λp hp=>?_,qq⟩
   . have:=(rk.v x.2 OQ).l;intro z;rw[z]at this;simp at this
   . have:=(rk.v x.2 OQ).n p hp;exact⟨by omega,λq hq=>by have:=nL q hq;omega⟩
 rw[all_map]at mL;refine⟨_,aR.of mL,?_⟩;rw[all_true];exact q _ (x1.trans x2)
theorem jT:∀{l:List Int},l.Pairwise (· < ·)->rising l=true
 | [],_=>rfl
 | [_],_=>rfl
 | a::b::r,h=>by
   rw[List.pairwise_cons]at h;unfold rising;rw[jT h.2,Dx (h.1 b (dq ..))];rfl
def inD (n:Int)(aX ch:List Int)(aU:List Nt):PyData:=.tuple [.str "inner",.int n,.list (aX.map PyData.int),.list (ch.map PyData.int),.list (aU.map Nt.d)]
theorem Pn {v:V}{ch:List Int}{aU:List Nt}(h:aS K H0 H (inD n aX ch aU) v):∃(T Pv C Y:Addr) (L:List (V×Nt)),v=.ref T/\tupQ K H T=some [.str "inner",.int n,.ref Pv,.ref C,.ref Y]/\(new K H0 Pv/\H Pv=some (.lst (aX.map V.int)))/\(new K H0 C/\H C=some (.lst (ch.map V.int)))/\new K H0 Y/\H Y=some (.lst (L.map (·.1)))/\aU=L.map (·.2)/\∀q∈L,aS K H0 H q.2.d q.1:=by
 unfold inD at h;simp only[aS.tt,ao.cc,ao.nn,aS.ss,aS.ii,aS.ll]at h;obtain⟨T,us,rfl,hT,v1,r1,rfl,rfl,v2,r2,rfl,rfl,v3,r3,rfl,⟨Pv,ps,rfl,n1,h1,a1⟩,v4,r4,rfl,⟨C,cs,rfl,n2,h2,a2⟩,v5,r5,rfl,⟨Y,ys,rfl,n3,h3,a3⟩,rfl⟩:=h;obtain⟨L,e1,e2,hL⟩:=ao.zip (d:=Nt.d) a3;rw[a1.ints]at h1;rw[a2.ints]at h2;rw[e1]at h3;exact⟨T,Pv,C,Y,L,rfl,hT,⟨n1,h1⟩,⟨n2,h2⟩,n3,h3,e2,hL⟩
inductive LJ (K:Frag)(c:Addr)(vs:List V)(H:Hp)(Q:VK)(E9:XK):Prop
 | mk (s dx rv last fresh bG ds kn aA fl a b r pl v H0 n lo hi aX ch aU f D L:_) (_:vs=[.ref s,v,.int lo,.int hi,.ref D]) (_:mR K H c s dx rv last fresh bG ds kn aA fl) (_:ir K H rv a b r pl) (_:aS K H0 H (inD n aX ch aU) v) (_:(lo::(aX++[hi])).Pairwise (· < ·)) (_:ch.length=aX.length + 1) (_:(ch.length:Int)<=b) (_:ch.length<=100) (_:N6 lo hi f a aU) (_:40 * f + 40<=last) (_:H D=some (.lst (L.map (·.1)))) (_:pQ K H L) (_:L.length<=100) (_:(∀q∈L,40 * f + 40<=q.2.n)) (_:∀H',Ext K H H'->Q (.bl true) H')
include B in
theorem jA (F:bQ K "is_inner_sound" "Survey.is_inner_sound" bN f fd)(SV:Od K av)(bV:⋯ "is_rising" 1 ["numbers"] (By K))(kB:⋯ "are_within" 1 ["notes","low","high","last"] (BO K))(sD:⋯ "is_tray" 3 ["notes"] (Fp K))(dX:⋯ "are_beneath" 2 ["notes","others"] (LG K)):(!0) 4 f fd ["self","inner","low","high","notes"] (LJ K av):=by
 exists 0,["self","inner","low","high","notes","most","fan","rows","plan","word","number","pivots","children","tray"]
 obtain⟨s,dx,rv,last,fresh,bG,ds,kn,aA,fl,a,b,r,pl,v,H0,n,lo,hi,aX,ch,aU,f,D,L,rfl,sv,⟨R0,rfl,hR⟩,hv,up,lc,lb,l100,tk,l40,hD,hL,lL,nL,q⟩:=h;obtain⟨T,Pv,C,Y,M,rfl,hT,⟨_,hP⟩,⟨_,hC⟩,_,hY,rfl,hM⟩:=Pn hv;refine aq (rest:=(aj bN).drop 4) (aE (aN (eE (ec sD hr (aa Ld ah)) (gA (ec dX hr (aa Ld (aa nH ah))))))) λr4 J4 e4=>?_;refine aq (rest:=(aj bN).drop 3) (ak (gJ (tw (rR (cM (cg (om (mA AN)) (jm (t6 B.len Ld)) Zu (aF _))) (je (dZ (dG (ec kB hr (aa Ld (aa fC (aa gB (aa (mq (eK cG)) ah)))))))))) (aE (aN rQ)) b8) J4) λr3 J3 e3=>?_;refine aq (rest:=(aj bN).drop 2) (ak (gJ (tw (rR (cM (cg (om (mA AN)) (jm (t6 B.len Se)) NY (aF _))) (rR (cM (cg (om sR) (jm (t6 B.len Se)) (jm (cA (mA bw) (t6 B.len HM) ei)) (aF _))) (je (dZ (dG (ec bV hr (aa (cA dg (cA dg (jx (aa fC ah)) HM) (jx (aa gB ah))) ah)))))))) (aE (aN rQ)) b8) J3) λr2 J2 e2=>?_;refine⟨_,(ak (iS (mq (eK cG)) (lA (dD (n:=4) rfl (ay (gn 5 nk) (ay (gn 6 nk) (ay (gn 7 nk) (ay (gn 8 nk) dR))))))) (ak (iS cF (lA (dD (n:=5) rfl (ay (gn 9 nk) (ay (gn 10 nk) (ay (gn 11 nk) (ay (gn 12 nk) (ay (gn 13 nk) dR)))))))) J2)),?_⟩
 ext
 refine⟨_,_,_,sv.ins,SV.cl,SV.rule,_,Fq,R0,rfl,_,hR,rfl,_,_,rfl,_,_,rfl,_,_,rfl,_,_,rfl,rfl,_,hT,rfl,_,_,rfl,_,_,rfl,_,_,rfl,_,_,rfl,_,_,rfl,rfl,?_⟩;rw[e2];simp_arith [aI hC,aI hP];refine aJ (by rw[ab];omega) (aJ (by rw[ab,ab];simp;omega) λp1 n1=>?_);have y1:=bX (.lst [V.int lo]) n1;refine⟨_,y1.at hP,by rw[ab];omega,λp2 n2 p3 n3=>?_⟩;have y2:=y1.trans (Ext.new (o:=.lst (V.int lo::aX.map V.int)) n2);have y3:=bX (.lst [V.int hi]) n3;refine⟨_,y3.at af,by simp;omega,λp4 n4=>?_⟩;have Y4:=y2.trans (y3.trans (Ext.new (o:=.lst (V.int lo::aX.map V.int++[V.int hi])) n4));refine⟨p4,lo::(aX++[hi]),rfl,aR.of (by rw[af,List.map_cons,bo];rfl),by simp;omega,λH5 x5=>⟨_,rfl,?_⟩⟩;rw[jT up];refine aJ RF ?_;have x5:=Y4.trans x5;clear Y4 y1 y2 y3;have hY5:=x5.at hY;have ht:pQ K H M:=λq hq=>LF (hM q hq);have lt:=tk.l;rw[ab]at lt;rw[e3];simp_arith [aI hY5];refine aJ (by rw[ab];omega) ⟨_,_,_,x5.at sv.ins,SV.cl,SV.last,_,Ft,Y,M,lo,hi,last,rfl,hY5,ht.ext x5,by omega,λq hq=>?_,λH6 x6=>⟨true,rfl,aJ RF ?_⟩⟩
 . have:=tk.e q.2 (eP hq);exact⟨this.s.1,this.s.2.2,by have:=this.n;omega⟩
 have x6:=x5.trans x6;rw[e4]
 ext
 refine⟨Y,M,rfl,x6.at hY,ht.ext x6,by omega,by have:=tk.up;rw[dn]at this;exact this,λH7 x7=>⟨true,rfl,bq rfl ?_⟩⟩;have x7:=x6.trans x7;refine⟨Y,D,M,L,rfl,x7.at hY,x7.at hD,ht.ext x7,hL.ext x7,by omega,lL,λx hx y hy _=>?_,λH8 x8=>q _ (x7.trans x8)⟩;have h1:=(tk.e x.2 (eP hx)).n;have h2:=nL y hy;omega
theorem jU {v:Addr}(x:Ext K H H1)(n:new K H1 v):new K H v:=by
 refine⟨?_,n.2⟩;have h1:=n.1;cases e:H v with
 | none=>rfl
 | some o=>
   rw[x.same v o e]at h1;cases h1
theorem mR.ext {c s:Addr}{fresh:Int}{ds:List V}(h:mR K H c s dx rv last fresh bG ds kn aA fl)(x:Ext K H H'):mR K H' c s dx rv last fresh bG ds kn aA fl:=⟨x.at h.ins,x.at h.bG,x.at h.kn⟩
theorem LK {a c:Addr}{fs:List (Str×V)}(hA:H A=some (.ins c dx fs))(h:tupQ K H a=some xs):tupQ K (upd H A o) a=some xs:=by
 have:a≠A:=λz=>by rw[z]at h;unfold tupQ at h;rw[hA]at h;cases h
 unfold tupQ at h ⊢;rw[au this];exact h
def LL (K:Frag)(H0 H:Hp)(D:Addr)(ws:List V)(x l h:Int)(u:V):Prop:=∃T E,u=.ref T/\tupQ K H T=some [.int x,.int l,.int h,.ref E]/\new K H0 E/\E≠D/\H E=some (.lst ws)
theorem LL.ext {x l h:Int}(a:LL K H0 H D ws x l h u)(y:Ext K H H'):LL K H0 H' D ws x l h u:=by
 obtain⟨T,E,e,t,n,ne,z⟩:=a;exact⟨T,E,e,y.tup t,n,ne,y.at z⟩
theorem LL.kp {x l h:Int}(a:LL K H0 H D ws x l h u)(hD:H D=some (.lst xs))(y:Kp K D H H'):LL K H0 H' D ws x l h u:=by
 obtain⟨T,E,e,t,n,ne,z⟩:=a;exact⟨T,E,e,y.tup hD t,n,ne,y.keep _ _ z ne⟩
theorem LM {c:Addr}{L:List (Addr×Int×Int×Int)}{v2:Option V}{rest:St}(hc:H c=some (.lst (L.map λq=>.ref q.1)))(hL:∀q∈L,tupQ K H q.1=some [.int q.2.1,.int q.2.2.1,.int q.2.2.2])(x0:Ext K H0 H)(nD:new K H D)(hz:L.length<=1000)
   (elt:∀q∈L,∀(H':Hp) (Q':VK),Ext K H H'->(∀u H'',(∀D,(∃o,H' D=some o)->LL K H' H'' D ws q.2.1 q.2.2.1 q.2.2.2 u)->Ext K H' H''->Q' u H'')->te (some (.int q.2.1)::some (.int q.2.2.1)::some (.int q.2.2.2)::rest) H' Q')
   (fin:∀us H',H' D=some (.lst us)->us.length=L.length->(∀(j:Nat) q u,L[j]?=some q->us[j]?=some u->LL K H0 H' D ws q.2.1 q.2.2.1 q.2.2.2 u)->Ext K H H'->Q H'):b7 (sQ K c) (qE K 3 (iy (cQ 0) (iy (cQ 1) (iy (cQ 2) wN)))) pK te D Q (v0::v1::v2::rest) (upd H D (.lst [])):=by
 refine iF (xs:=L.map λq=>.ref q.1) (λi acc σ' H'=>∃v0 v1 v2,σ'=v0::v1::v2::rest/\H' D=some (.lst acc)/\acc.length=i/\i<=L.length/\(∀(j:Nat) q u,L[j]?=some q->acc[j]?=some u->LL K H0 H' D ws q.2.1 q.2.2.1 q.2.2.2 u)/\Kp K D (upd H D (.lst [])) H') ⟨_,_,_,rfl,af,rfl,hU _,λj q u _ h=>(by simp at h),Kp.refl⟩ ?_ ?_ ?_
 . rintro i acc σ' H' _ ⟨v0,v1,v2,rfl,hD,_,_,_,k⟩;exact aR.of ((k.ext nD).at hc)
 . rintro i x acc σ' H' hx ⟨v0,v1,v2,rfl,hD,ln,hi,ha,k⟩;rw[bb]at hx;obtain⟨q,hq,rfl⟩:=bj.mp hx;have jg:=(bc.mp hq).1;have xk:=k.ext nD;have h1:=xk.tup (hL q (ba hq));unfold pK;simp only[qE,↓Nx,iy,wN,cQ,List.set_cons_zero,List.set_cons_succ];refine⟨_,h1,rfl,_,_,rfl,_,_,rfl,_,_,rfl,rfl,?_⟩;rw[Fh trivial];refine elt q (ba hq) H' _ xk λu H'' aw x''=>?_;have mL:=x''.at hD;have kD:=Kp.upd (K:=K) (o:=.lst (acc++[u])) mL;refine⟨mL,by rw[ln];exact bp jg (cn hz RF),_,_,_,rfl,af,by rw[ax,ln];rfl,jg,λj q' u' hj hu=>?_,k.trans (x''.kp.trans kD)⟩
   by_cases SR:j < acc.length
   . rw[ky SR]at hu;exact((ha j q' u' hj hu).ext x'').kp mL kD
   . rw[kf QR]at hu;have e0:j - acc.length=0:=by
       have:=(bc.mp hu).1;simp at this;omega
     rw[e0]at hu;cases hu;have ej:j=i:=QR
     subst ej;rw[hq]at hj;cases hj;obtain⟨T,E,e,t,n,ne,z⟩:=aw D ⟨_,hD⟩;exact LL.kp (K:=K) (H:=H'') ⟨T,E,e,t,jU x0 (jU xk n),ne,z⟩ mL kD
 . rintro acc σ' H' ⟨v0,v1,v2,rfl,hD,ln,hi,ha,k⟩;rw[ab]at ln;exact fin acc H' hD ln ha (k.ext nD)
inductive Fw (K:Frag)(c:Addr)(vs:List V)(H:Hp)(Q:VK)(E9:XK):Prop
 | mk (s dx rv last fresh bG ds kn aA fl T n lo hi:_) (aX ch:List Int) (Pv C Y E) (ts:List V) (_:vs=[.ref s,.ref T,.int lo,.int hi,.ref E]) (_:mR K H c s dx rv last fresh bG ds kn aA fl) (_:tupQ K H T=some [.str "inner",.int n,.ref Pv,.ref C,.ref Y]) (_:H Pv=some (.lst (aX.map V.int))) (_:H C=some (.lst (ch.map V.int))) (_:ch.length=aX.length + 1) (_:aX.length<=100) (_:H E=some (.lst ts)) (_:ts.length<=100) (_:ds.length<=10000) (_:∀qX (us:List V) H',new K H qX->mR K H' c s dx rv last fresh qX (ds++us.reverse) kn aA fl->us.length=ch.length->(∀(j:Nat) (u:V) (x l h:Int),us[j]?=some u->ch[j]?=some x->(lo::aX)[j]?=some l->(aX++[hi])[j]?=some h->LL K H H' qX (ts++[.ref Y]) x l h u)->Kp K s H H'->Q .bO H')
include B in
theorem jB (F:bQ K "await_children" "Survey.await_children" cj f fd)(SV:Od K av):(!0) 1 f fd ["self","inner","low","high","trays"] (Fw K av):=by
 exists 0,["self","inner","low","high","trays","word","number","pivots","children","tray","told"]
 obtain⟨s,dx,rv,last,fresh,bG,ds,kn,aA,fl,T,n,lo,hi,aX,ch,Pv,C,Y,E',ts,rfl,sv,hT,hP,hC,lc,lp,hE,lt,ld,q⟩:=h;refine aq (rest:=(aj cj).drop 2) (aE (tX (ie cG (jm (cA dg (mq (eK cG)) (qe (ck [ "child","first","end","trays","tray" ] [none,none,none,some 4,some 9]) rfl (j5 (bU (jm (Vf Dz)))) (λ_ _ _ _=>(lA (iT K (n:=3) rfl (ay (gn 0 nk) (ay (gn 1 nk) (ay (gn 2 nk) dR)))))) (λ_ _ _ _=>c6) (λ_ _ _ _=>(Tc (uU K (am (aa bg (aa cF (aa fC (aa (cA (JY (K:=K)) gB (Zi (JX K (am (aa nH ah))))) ah)))))))))))))) λr2 J2 e2=>?_;refine aq (rest:=(aj cj).drop 1) (ak (ss 10 nk (HA rfl rfl B.list rfl B.zip (aa yL (aa (cA dg (jx (aa fC ah)) HL) (aa (cA dg HL (jx (aa gB ah))) ah))))) J2) λr1 J1 e1=>?_;refine⟨_,(ak (iS cF (lA (dD (n:=5) rfl (ay (gn 5 nk) (ay (gn 6 nk) (ay (gn 7 nk) (ay (gn 8 nk) (ay (EC (i:=9) nk rfl (Or.inr rfl)) dR)))))))) J1),?_⟩
 ext
 refine⟨_,hT,rfl,_,_,rfl,_,_,rfl,_,_,rfl,_,_,rfl,_,_,rfl,rfl,?_⟩;rw[e1]
 ext
 intro p1 n1;have x1:=bX (.lst [V.int lo]) n1;refine⟨_,x1.at hP,by rw[ab];omega,λp2 n2 p3 n3=>?_⟩;have x2:=x1.trans (bX (.lst (V.int lo::aX.map V.int)) n2);have x3:=x2.trans (bX (.lst [V.int hi]) n3);refine⟨_,x3.at hP,by rw[ab];omega,λp4 n4=>?_⟩;have x4:=bX (.lst (aX.map V.int++[V.int hi])) n4;have x04:=x3.trans x4;refine⟨_,aR.of (x04.at hC),_,aR.of (x4.at ((Ext.new (K:=K) n3).at af)),_,aR.of af,by simp[lc],by simp[lc],by simp;omega,by simp;omega,λD L H5 nD lL Y8 dL hD x5 hL=>?_⟩;have x05:=x04.trans x5;rw[ab]at lL;generalize upd (upd (upd (upd H p1 _) p2 _) p3 _) p4 _=H4 at nD x5 hL x04;rw[e2]
 ext
 have Po:=sv.ext x05;obtain⟨M,hM⟩:∃M:List (Addr×Int×Int×Int),M=L.zip (ch.zip ((lo::aX).zip (aX++[hi]))):=⟨_,rfl⟩
 have lM:M.length=L.length:=by
   rw[hM];simp only[my,List.length_cons,ax,List.length_nil];omega
 have mM:M.map (λq=>q.1)=L:=by
   rw[hM];exact oe (by simp only[my,List.length_cons,ax,List.length_nil];omega)
 have gM:∀(j:Nat) q,M[j]?=some q->L[j]?=some q.1/\ch[j]?=some q.2.1/\(lo::aX)[j]?=some q.2.2.1/\(aX++[hi])[j]?=some q.2.2.2:=by
   intro j q h;rw[hM,de,de,de]at h;exact⟨h.1,h.2.1,h.2.2.1,h.2.2.2⟩
 refine⟨_,_,_,Po.ins,SV.cl,SV.bG,_,Ae,_,aR.of hD,λp6 n6=>⟨⟨_,aR.of af⟩,λD7 n7=>?_⟩⟩;have x6:=bX (.lst (L.map V.ref).reverse) n6;have x06:=x05.trans x6;have h6:upd H5 p6 (.lst (L.map V.ref).reverse) p6=some (.lst (M.reverse.map λq=>.ref q.1)):=by
   rw[af,zt,<- mM,dn];rfl
 refine LM (H0:=H) (ws:=ts++[.ref Y]) h6 (λr hr=>?_) x06 n7 (by rw[fo,lM];omega) (λr hr H' Q' xx qq=>?_) (λus H8 XI l8 a8 x8=>?_)
 . obtain⟨j,hj,ej⟩:=fv.mp (t5.mp hr);obtain⟨g1,g2,g3,g4⟩:=gM j r (by rw[<- ej];exact a9 hj);have e1:(ch.map V.int)[j]?=some (V.int r.2.1):=by rw[bb,g2];rfl
   have e2:(V.int lo::aX.map V.int)[j]?=some (V.int r.2.2.1):=by
     have:=congrArg (Option.map V.int) g3;rw[<- bb]at this;exact this
   have e3:(aX.map V.int++[V.int hi])[j]?=some (V.int r.2.2.2):=by
     have:=congrArg (Option.map V.int) g4;rw[<- bb,bo]at this;exact this
   exact x6.tup (by unfold tupQ;rw[(hL j r.1 _ _ _ g1 e1 e2 e3).2])
 . ext
   intro y1 m1;have w1:=bX (.lst [V.ref Y]) m1;have w6:=x06.trans xx;refine⟨_,(w6.trans w1).at hE,by omega,λy2 m2 y3 m3=>?_⟩;have w2:=bX (.lst (ts++[V.ref Y])) m2;have w3:=bX (.tup [V.int r.2.1,V.int r.2.2.1,V.int r.2.2.2,V.ref y2]) m3;refine qq _ _ (λD ⟨o,hD⟩=>⟨y3,y2,rfl,aK,jU w1 m2,λz=>?_,w3.at af⟩) ((w1.trans w2).trans w3);have:=w1.at hD;rw[<- z,m2.1]at this;cases this
 have x08:=x06.trans x8;have sv8:=sv.ext x08;refine⟨_,rfl,_,sv8.bG,_,XI,by rw[l8,fo,lM];omega,λp9 n9=>?_⟩;have x9:=bX (.lst (ds++us)) n9;have WD:=sv8.ext x9;have ps:p9≠s:=λz=>by have:=sv8.ins;rw[<- z,n9.1]at this;cases this
 have ks:kn≠s:=λz=>by have e1:=sv.kn;have e2:=sv.ins;rw[z,e2]at e1;cases e1
 refine⟨_,_,_,WD.ins,SV.cl,SV.bG,by simp[oK],?_⟩;have p8:bC "due" (.ref p9) (oK rv last fresh bG kn fl)=oK rv last fresh p9 kn fl:=by simp only[bC,Z8,l_d,f_d,FR,Md,oK]
 rw[p8];have DP:upd (upd H8 p9 (.lst (ds++us))) s (.ins av dx (oK rv last fresh p9 kn fl)) p9=some (.lst (ds++us.reverse.reverse)):=by rw[au ps,af,vw]
 have kS:=Kp.gF (K:=K) (o:=.ins av dx (oK rv last fresh p9 kn fl)) WD.ins;refine q p9 us.reverse _ (jU x08 n9) ⟨af,DP,by rw[au ks];exact WD.kn⟩ (by rw[fo,l8,fo,lM];omega) (λj u x l h hu g1 g2 g3=>?_) ((x08.trans x9).kp.trans kS);have hj:j < us.length:=by
   have:=(bc.mp hu).1;simpa using this
 have hjM:j < M.length:=by rw[l8,fo]at hj;exact hj
 rw[List.getElem?_reverse hj]at hu;obtain⟨r,hr⟩:∃r,M[j]?=some r:=⟨_,a9 hjM⟩
 have o9:M.reverse[us.length - 1 - j]?=some r:=by
   rw[List.getElem?_reverse (by rw[l8,fo]at hj ⊢;omega),show M.length - 1 - (us.length - 1 - j)=j by rw[l8,fo];omega];exact hr
 obtain⟨_,k1,k2,k3⟩:=gM j r hr;rw[g1]at k1;rw[g2]at k2;rw[g3]at k3;cases k1;cases k2;cases k3;obtain⟨T',E2,e,t,nE,_,z⟩:=a8 _ r u o9 hu;have z9:=x9.at z;have Es:E2≠s:=λy=>by have:=WD.ins;rw[<- y,z9]at this;cases this
 have Ep:E2≠p9:=λy=>by rw[y,n9.1]at z;cases z
 refine⟨T',E2,e,?_,nE,Ep,by rw[au Es];exact z9⟩;exact LK WD.ins (x9.tup t)
structure Du where
 t:Tr
 o:Option Int
 lo:Int
 hi:Int
 f:Nat
 Ys:List (Addr×List (V×Nt))
def Cn (K:Frag)(H1 H:Hp)(bG:Addr)(d:Du)(u:V):Prop:=∃T E,u=.ref T/\tupQ K H T=some [on d.o,.int d.lo,.int d.hi,.ref E]/\new K H1 E/\E≠bG/\H E=some (.lst (d.Ys.map λy=>.ref y.1))
structure XJ (K:Frag)(H1:Hp)(a b c:Int)(g:Addr->Int)(F:Nat)(d:Du):Prop where
 ok:bB a b c d.t d.f d.lo d.hi
 o:d.o=none∨d.o=some (g d.t.a)
 f:d.Ys.length + d.f=F
 y:∀y∈d.Ys,H1 y.1=some (.lst (y.2.map (·.1)))/\pQ K H1 y.2/\y.2.length<=5/\∀q∈y.2,40 * (d.f:Int) + 40<=q.2.n
theorem Kp.WE {x a:Addr}(k:Kp K x H H')(hx:H x=some o)(nt:∀xs,o≠.tup xs)(h:tupQ K H a=some xs):tupQ K H' a=some xs:=by
 have ne:a≠x:=λz=>by
   rw[z]at h;unfold tupQ at h;rw[hx]at h;cases o <;> first | cases h | skip
   exact nt _ rfl
 cases e:H a with
 | none=>
   have h':=h;unfold tupQ at h;rw[e]at h;unfold tupQ;rw[k.mod a xs e h];exact h
 | some u=>
   have h':=k.keep a u e ne;unfold tupQ at h ⊢;rw[e]at h;rw[h'];exact h
theorem Cn.kp {x:Addr}{d:Du}(h:Cn K H1 H bG d u)(k:Kp K x H H')(hx:H x=some o)(nt:∀xs,o≠.tup xs)(ne:x=bG∨∀xs,o≠.lst xs):Cn K H1 H' bG d u:=by
 obtain⟨T,E,e,t,n,ed,hE⟩:=h;refine⟨T,E,e,Kp.WE k hx nt t,n,ed,k.keep _ _ hE λz=>?_⟩;rcases ne with rfl | ne
 . exact ed z
 . rw[z,hx]at hE;exact ne _ (Option.some.inj hE)
theorem Cn.ext {d:Du}(h:Cn K H1 H bG d u)(x:Ext K H H'):Cn K H1 H' bG d u:=by
 obtain⟨T,E,e,t,n,ed,hE⟩:=h;exact⟨T,E,e,x.tup t,n,ed,x.at hE⟩
theorem Cn.at {qX:Addr}{d:Du}(h:Cn K H1 H bG d u)(n:H qX=none):Cn K H1 H qX d u:=by
 obtain⟨T,E,e,t,nE,ed,hE⟩:=h;exact⟨T,E,e,t,nE,λz=>(by rw[z,n]at hE;cases hE),hE⟩
mutual
theorem bB.lt {a b c:Int}:∀{t:Tr}{f:Nat}{lo hi:Int},bB a b c t f lo hi->lo < hi
 | .leaf _ _ _ _,_,_,_,h=>by unfold bB at h;exact h.2.2.2.1
 | .inner _ _ _ aX aU kids,f,lo,hi,h=>by
   unfold bB at h;obtain⟨_,_,_,_,g,_,_,h⟩:=h;exact bz.lt h
theorem bz.lt {a b c:Int}:∀{ts:List Tr}{g:Nat}{lo:Int}{aX:List Int}{hi:Int},bz a b c ts g lo aX hi->lo < hi
 | [],_,_,_,_,h=>by unfold bz at h;exact h.elim
 | t::ts,g,lo,[],hi,h=>by unfold bz at h;exact bB.lt h.1
 | t::ts,g,lo,q::qs,hi,h=>by unfold bz at h;exact Int.lt_trans (bB.lt h.1) (bz.lt h.2)
end
theorem sE {a b c hi:Int}{g:Nat}:∀{ts:List Tr}{aX:List Int}{lo:Int},bz a b c ts g lo aX hi->∀(j:Nat) (t:Tr),ts[j]?=some t->∃l h,(lo::aX)[j]?=some l/\(aX++[hi])[j]?=some h/\bB a b c t g l h/\lo<=l/\h<=hi
 | [],_,_,h,_,_,_=>by unfold bz at h;exact h.elim
 | t::ts,[],lo,h,j,u,hj=>by
   unfold bz at h;obtain⟨h,rfl⟩:=h;cases j with
   | zero=>cases hj;exact⟨lo,hi,rfl,rfl,h,kl _,kl _⟩
   | succ j=>simp at hj
 | t::ts,q::qs,lo,h,j,u,hj=>by
   unfold bz at h;cases j with
   | zero=>cases hj;exact⟨lo,q,rfl,rfl,h.1,kl _,Int.le_of_lt (bz.lt h.2)⟩
   | succ j=>
     obtain⟨l,h',e1,e2,e3,e4,e5⟩:=sE h.2 j u hj;exact⟨l,h',e1,e2,e3,Int.le_of_lt (Int.lt_of_lt_of_le (bB.lt h.1) e4),e5⟩
theorem DX {a b c hi:Int}{g:Nat}:∀{ts:List Tr}{aX:List Int}{lo:Int},bz a b c ts g lo aX hi->(lo::(aX++[hi])).Pairwise (· < ·)
 | [],_,_,h=>by unfold bz at h;exact h.elim
 | t::ts,[],lo,h=>by
   unfold bz at h;have:=bB.lt h.1;simp[this]
 | t::ts,q::qs,lo,h=>by
   unfold bz at h;have h1:=bB.lt h.1;have h2:=DX h.2;rw[List.cons_append];refine List.pairwise_cons.mpr ⟨λz hz=>?_,h2⟩;rcases List.mem_cons.mp hz with rfl | hz
   . exact h1
   . exact Int.lt_trans h1 ((List.pairwise_cons.mp h2).1 z hz)
theorem Of {lo c:Int}{rows:List (Int×List jq)}(h:xm lo hi c rows)(h0:0<=lo)(h1:hi<=10 ^ 12):vG rows=true:=by
 unfold vG;rw[jT h.up,lj,eI];intro r hr;have k:=h.k r hr;have v:=h.v r hr;unfold E3 zQ;rw[jT v.up,Dx QR,lj,Bool.true_and,cm];refine⟨?_,?_⟩
 . have:=v.l.1;cases e:r.2 with
   | nil=>rw[e]at this;simp at this
   | cons p ps=>rfl
 . rw[eI];exactλp hp=>Dx (v.n p hp).1
theorem LN {lo f a:Int}{aU:List Nt}(h:N6 lo hi f a aU)(hf:0<=f)(h0:0<=lo)(h1:hi<=10 ^ 12):DB (some (aU.map Nt.rn))=true:=by
 unfold DB;rw[eI];intro r hr;obtain⟨e,he,rfl⟩:=gs.mp hr;have k:=h.e e he;have s:=k.s;have n:=k.n;have p1:fO 1 (some e.n)=true:=Dx QR;have p2:HU (some e.lo) (some e.hi)=true:=by
   unfold HU wO;simp only[cm,FC];omega
 have p3:Pa PI (some e.t)=true:=by
   cases e.t <;> first | rfl | exact Dx (by simp[PI])
 have p4:Pa [Str.ofString "is"] (some e.m)=true/\(Sf (some e.lo) (some e.hi)||DA (some e.m))=true:=by
   rcases k.m with m | ⟨i,m,_,gp⟩
   . rw[m];exact⟨rfl,by simp[DA]⟩
   . rw[m];refine⟨by unfold Pa;simp,?_⟩;show(decide (e.hi - e.lo=1)||_)=true;rw[Dx gp];rfl
 unfold vF;simp only[Nt.rn,p1,p2,p3,p4.1,p4.2,Bool.and_self]
theorem Og {E:Addr}{Ys:List (Addr×List (V×Nt))}{N:List V->St->Hp->Prop}(hE:H E=some (.lst (Ys.map λy=>.ref y.1)))(hY:∀y∈Ys,H y.1=some (.lst (y.2.map (·.1))))(nD:new K H D)(hz:(Ys.flatMap (·.2)).length<=1000)
   (fin:∀acc σ H',H' D=some (.lst ((Ys.flatMap (·.2)).map (·.1)))->Ext K H H'->N acc σ H'):fJ (sQ K E) (cQ 0) pK (sV (rY K (vM 0)) (cQ 1) pK (vM 1) D) [] N [v0,v1] (upd H D (.lst [])):=by
 refine uu (xs:=Ys.map λy=>.ref y.1) (λi acc σ' H'=>∃(v0 v1:Option V),σ'=[v0,v1]/\acc=((Ys.take i).flatMap (·.2)).map (·.1)/\H' D=some (.lst acc)/\Kp K D (upd H D (.lst [])) H') ⟨_,_,rfl,rfl,af,Kp.refl⟩ ?_ ?_ ?_
 . rintro i acc σ' H' _ ⟨v0,v1,rfl,_,_,k⟩;exact aR.of ((k.ext nD).at hE)
 . rintro i x acc σ' H' hx ⟨v0,v1,rfl,rfl,hD,k⟩;rw[bb]at hx;obtain⟨y,hy,rfl⟩:=bj.mp hx;have hY':=(k.ext nD).at (hY y (ba hy))
   ext
   refine⟨⟨_,aR.of hY'⟩,?_⟩;have sp:(Ys.take (i + 1)).flatMap (·.2)=(Ys.take i).flatMap (·.2)++y.2:=by rw[List.take_add_one,hy,ip,List.flatMap_append];simp
   have le:((Ys.take (i + 1)).flatMap (·.2)).length<=1000:=by
     have e:=congrArg (λl=>(l.flatMap (·.2)).length) (uk (i + 1) Ys);simp only[List.flatMap_append,ax]at e;omega
   rw[sp,ax]at le;refine uu (xs:=y.2.map (·.1)) (λj acc σ' H'=>∃(v1:Option V),σ'=[some (V.ref y.1),v1]/\acc=((Ys.take i).flatMap (·.2)++y.2.take j).map (·.1)/\H' D=some (.lst acc)/\Kp K D (upd H D (.lst [])) H') ⟨_,rfl,by simp,hD,k⟩ ?_ ?_ ?_
   . rintro j acc σ' H' _ ⟨v1,rfl,_,_,k⟩;exact aR.of ((k.ext nD).at (hY y (ba hy)))
   . rintro j x acc σ' H2 hx ⟨v1,rfl,rfl,hD,k⟩;rw[bb]at hx;obtain⟨q2,hq2,rfl⟩:=bj.mp hx;have hj:j < y.2.length:=(bc.mp hq2).1
     ext
     refine⟨hD,?_,?_,k.trans (Kp.upd hD)⟩
     . simp only[ax,fb,ab,sizeLine]at *;omega
     . rw[List.take_add_one,hq2,ip,<- km,bo (l₂:=[q2])];rfl
   . rintro acc σ' H2 ⟨v1,rfl,rfl,hD,k⟩;rw[ab,dv]at hD;exact⟨_,_,rfl,by rw[ab,dv,sp],by rw[ab,dv];exact hD,k⟩
 . rintro acc σ' H' ⟨v0,v1,rfl,rfl,hD,k⟩;rw[ab,dv]at hD;exact fin _ _ H' hD (k.ext nD)
theorem xB {a:V}{l:List V}:kZ (a::l) 0=some a:=by
 have:=eB (xs:=a::l) (i:=0) rfl;simpa using this
theorem DY {a b:V}{l:List V}:kZ (a::b::l) 1=some b:=by
 have:=eB (xs:=a::b::l) (i:=1) rfl;simpa using this
theorem sF {fresh:Int}(k1:(m=="rule")=false)(k2:(m=="last")=false)(k3:(m=="fresh")=false)(k4:(m=="due")=false)(k5:(m=="known")=false)(k6:(m=="floors")=false):List.lookup m (oK rv last fresh bG kn fl)=none:=by
 simp only[oK,List.lookup,k1,k2,k3,k4,k5,k6]
theorem Sq {fresh:Int}:List.lookup ("may_have":Str) (oK rv last fresh bG kn fl)=none:=sF Q1 Q1 Q1 Q1 Q1 Q1
theorem WG {fresh:Int}:List.lookup ("is_leaf_sound":Str) (oK rv last fresh bG kn fl)=none:=sF Q1 Q1 Q1 Q1 Q1 Q1
theorem WH {fresh:Int}:List.lookup ("is_inner_sound":Str) (oK rv last fresh bG kn fl)=none:=sF Q1 Q1 Q1 Q1 Q1 Q1
theorem WI {fresh:Int}:List.lookup ("has_floors":Str) (oK rv last fresh bG kn fl)=none:=sF Q1 Q1 Q1 Q1 Q1 Q1
theorem WJ {fresh:Int}:List.lookup ("await_children":Str) (oK rv last fresh bG kn fl)=none:=sF Q1 Q1 Q1 Q1 Q1 Q1
theorem WK {fresh:Int}:List.lookup ("takes":Str) (oK rv last fresh bG kn fl)=none:=sF Q1 Q1 Q1 Q1 Q1 Q1
inductive Fx (K:Frag)(cS:Addr)(vs:List V)(H:Hp)(Q:VK)(E9:XK):Prop
 | mk (s dx rv last fresh bG kn aA fl a b c pl H0 H1 v:_) (g:Addr->Int) (F:Nat) (Z:List (Du×V)) (z:Du×V) (_:vs=[.ref s,v]) (_:mR K H cS s dx rv last fresh bG ((Z++[z]).map (·.2)) kn aA fl) (_:Ext K H1 H) (_:(∀x∈[s,bG,kn],new K H1 x)) (_:ir K H1 rv a b c pl) (_:(∀y∈Z++[z],Cn K H1 H bG y.1 y.2)) (_:XJ K H1 a b c g F z.1) (_:aS K H0 H1 (z.1.t.told g) v) (_:(0<=g z.1.t.a/\g z.1.t.a < fresh)) (_:dO aA (.inl (g z.1.t.a))=none) (_:F<=3) (_:(fl=.bO∨fl=.int F)) (_:40 * (F:Int) + 40<=last) (_:aA.length<=1000) (_:Z.length<=1000) (_:(0<=z.1.lo/\z.1.hi<=10 ^ 12)) (_:∀qX Z' fl' H',mR K H' cS s dx rv last fresh qX ((Z++Z').map (·.2)) kn (putK aA (.inl (g z.1.t.a)) (.bl true)) fl'->(fl'=.bO∨fl'=.int F)->Ext K H1 H'->new K H1 qX->(∀y∈Z++Z',Cn K H1 H' qX y.1 y.2)->(∀y∈Z',XJ K H1 a b c g F y.1/\z.1.lo<=y.1.lo/\y.1.hi<=z.1.hi)->Z'.reverse.map (λy=>y.1.t)=z.1.t.kids->Q (.bl true) H')
include B in
theorem uf (F:bQ K "takes" "Survey.takes" cD f fd)(SV:Od K av)(i6:⋯ "is_leaf_told" 7 ["thing"] (Fb K))(iu:⋯ "is_inner_told" 6 ["thing"] (Lq K))(fL:jJ P w K mg base av "may_have" 3 ["self","number","due"] [] (Pk K av))(dF:jJ P w K mg base av "is_leaf_sound" 3 ["self","leaf","low","high","notes"] [] (Fv K av))(fc:jJ P w K mg base av "has_floors" 1 ["self","many"] [] (BR K av))(cX:jJ P w K mg base av "is_inner_sound" 4 ["self","inner","low","high","notes"] [] (LJ K av))(cY:jJ P w K mg base av "await_children" 1 ["self","inner","low","high","trays"] [] (Fw K av)):(!0) 8 f fd ["self","room"] (Fx K av):=by
 exists 0,["self","room","number","low","high","trays","notes"]
 obtain⟨s,dx,rv,last,fresh,bG,kn,aA,fl,a,b,c,pl,H0,H1,v,g,F,Z,⟨d,u⟩,rfl,sv,x1,nw,rl,du,dk,hv,gr,kv,f3,SQ,l40,lk,lZ,bd,q⟩:=h;have i7:=SV.cl;have dk:XJ K H1 a b c g F d:=dk;have hv:aS K H0 H1 (d.t.told g) v:=hv;have gr:0<=g d.t.a/\g d.t.a < fresh:=gr;have kv:dO aA (.inl (g d.t.a))=none:=kv;have bd:0<=d.lo/\d.hi<=10 ^ 12:=bd;refine aq (rest:=(aj cD).drop 5) (ak (gJ (cM (cg (om fq) (jm (iq cF)) (jm cJ) (aF _))) (aE (aN (eE (RL (u6 dF i7 (rm hr) cG (aa cF (aa gB (aa nH (aa Cm ah)))))) (gA (RL (u6 fc i7 (rm hr) cG (aa (t6 B.len tZ) ah))))))) b8) (ak (gJ (dZ (uQ (RL (u6 cX i7 (rm hr) cG (aa cF (aa gB (aa nH (aa Cm ah)))))) (λ_=>rfl))) (aE (aN rQ)) b8) (ak (qt (RL (u6 cY i7 (rm hr) cG (aa cF (aa gB (aa nH (aa tZ ah))))))) (aE (aN rQ))))) λr5 J5 e5=>?_;refine aq (rest:=(aj cD).drop 4) (ak (YJ (i:=6) nk rfl (Or.inl rfl) (ck [ "tray","note" ] [none,none]) rfl (j5 (bU Zu)) (λ_ _ _ _=>(gn 0 nk)) (λ_ _ _ _=>c6) (λ_ _ _ _=>(j5 (JZ K cG))) (λ_ _ _ _=>(gn 1 nk)) (λ_ _ _ _=>c6) (λ_ _ _ _=>cF)) J5) λr4 J4 e4=>?_;refine aq (rest:=(aj cD).drop 3) (ak (ES hr.units (mq (eK cG)) (iq cF) rQ) J4) λr3 J3 e3=>?_;refine aq (rest:=(aj cD).drop 2) (ak (gJ (dZ (uQ (RL (u6 fL i7 (rm hr) cG (aa (iq cF) (aa fC ah)))) (λ_=>rfl))) (aE (aN rQ)) b8) J3) λr2 J2 e2=>?_;refine aq (rest:=(aj cD).drop 1) (ak (iS (U4 PySem.F.plainAttrs_list PySem.F.slot_list_pop PySem.F.type_list_pop Jl (mq (eK cG))) (lA (dD (n:=4) rfl (ay (gn 2 nk) (ay (gn 3 nk) (ay (gn 4 nk) (ay (gn 5 nk) dR))))))) J2) λr1 J1 e1=>?_;refine⟨_,(ak (gJ (tw (rR (cM (cg (om fq) (jm (t6 B.len (mq (eK cG)))) (jm ei) (aF _))) (je (dZ (tw (rR (dG (ec i6 hr (aa cF ah))) (je (dG (ec iu hr (aa cF ah)))))))))) (aE (aN rQ)) b8) J1),?_⟩
 ext
 have lD:((Z++[(d,u)]).map (·.2)).length=Z.length + 1:=RR
 refine⟨_,_,_,sv.ins,SV.cl,SV.bG,_,Ae,_,rfl,_,aI sv.bG,aJ (by rw[lD];omega) ?_⟩;have Pp:=hv.ext x1;obtain⟨T,wd,us,rfl,hT⟩:∃T wd us,v=.ref T/\tupQ K H T=some (.str wd::.int (g d.t.a)::us):=by
   cases ht:d.t with
   | leaf A l h rows=>
     rw[ht]at Pp;obtain⟨T',ws,e,hT',hu⟩:=aS.tt.mp Pp;simp only[ao.cc,ao.nn,aS.ss,aS.ii,aS.ll]at hu;obtain⟨v1,r1',rfl,rfl,v2,r2',rfl,rfl,_⟩:=hu;exact⟨T',_,_,e,hT'⟩
   | inner A l h aX aU kids=>
     rw[ht]at Pp;obtain⟨T',ws,e,hT',hu⟩:=aS.tt.mp Pp;simp only[ao.cc,ao.nn,aS.ss,aS.ii,aS.ll]at hu;obtain⟨v1,r1',rfl,rfl,v2,r2',rfl,rfl,_⟩:=hu;exact⟨T',_,_,e,hT'⟩
 have k:∀G,Ext K H G->r1 { nx:=λx H'=>Q V.bO H',rt:=Q } [some (V.ref s),some (V.ref T),none,none,none,none,none] G:=by
   intro G xG;rw[e1]
   ext
   have Pq:=sv.ext xG;have x1G:=x1.trans xG;obtain⟨T0,E1,eu,ht0,nE,Ed,hE⟩:=(du (d,u) RR).ext xG;have eD:(Z++[(d,u)]).map (·.2)=Z.map (·.2)++[u]:=by rw[bo];rfl
   have BS:=Pq.bG;rw[eD]at BS;have kD:=Kp.upd (K:=K) (o:=.lst (Z.map (·.2))) BS;have eL:(Z.map (·.2)++[u])[(Z.map (·.2)++[u]).length - 1]?=some u:=RR
   have OP:=Kp.WE kD BS (λ_ z=>by cases z) ht0;refine⟨_,_,_,Pq.ins,SV.cl,SV.bG,_,Ae,.inl ⟨_,aR.of BS⟩,_,rfl,_,BS,_,eL,T0,eu,_,by rw[pj];exact OP,rfl,_,_,rfl,_,_,rfl,_,_,rfl,_,_,rfl,rfl,?_⟩;rw[pj,e2];have sd:s≠bG:=λz=>by have e:=Pq.ins;rw[z,BS]at e;cases e
   have kd:kn≠bG:=λz=>by have e:=Pq.kn;rw[z,BS]at e;cases e
   have ks:kn≠s:=λz=>by have e:=Pq.kn;rw[z,Pq.ins]at e;cases e
   have duG:∀y∈Z,Cn K H1 (upd G bG (.lst (Z.map (·.2)))) bG y.1 y.2:=λy hy=>((du y (by simp[hy])).ext xG).kp kD BS (λ_ z=>by cases z) (.inl rfl);have hE2:=kD.keep _ _ hE Ed;have x2:Ext K H1 (upd G bG (.lst (Z.map (·.2)))):=⟨λr o e=>kD.keep r o (x1G.at e) (λz=>by rw[z,(nw bG RR).1]at e;cases e),λr xs e m=>kD.mod r xs (x1G.mod r xs e m) m⟩
   have XM:mR K (upd G bG (.lst (Z.map (·.2)))) av s dx rv last fresh bG (Z.map (·.2)) kn aA fl:=⟨kD.keep _ _ Pq.ins sd,af,kD.keep _ _ Pq.kn kd⟩
   generalize upd G bG (.lst (Z.map (·.2)))=G2 at OP duG hE2 x2 XM ⊢
   ext
   have Ss:∀{G':Hp},Ext K H1 G'->∃us',tupQ K G' T=some (.str wd::.int (g d.t.a)::us'):=λxx=>by
     obtain⟨T',ws,e,hT',hu⟩:∃T' ws,V.ref T=.ref T'/\tupQ K H1 T'=some ws/\True:=by
       cases ht:d.t with
       | leaf A l h rows=>rw[ht]at hv;obtain⟨T',ws,e,hT',_⟩:=aS.tt.mp hv;exact⟨T',ws,e,hT',trivial⟩
       | inner A l h aX aU kids=>rw[ht]at hv;obtain⟨T',ws,e,hT',_⟩:=aS.tt.mp hv;exact⟨T',ws,e,hT',trivial⟩
     cases e;have:=x1.tup hT';rw[hT]at this;cases this;exact⟨_,xx.tup hT'⟩
   obtain⟨us2,hT2⟩:=Ss x2;refine⟨_,_,XM.ins,Sq,_,aQ hT2,_,DY,s,dx,rv,last,fresh,bG,_,kn,aA,fl,g d.t.a,d.o,rfl,XM,dk.o,gr.1,gr.2,kv,λG3 x3=>⟨true,rfl,aJ RF ?_⟩⟩;have Su:=XM.ext x3;have qf:=x2.trans x3;have hE3:=x3.at hE2;have du3:∀y∈Z,Cn K H1 G3 bG y.1 y.2:=λy hy=>(duG y hy).ext x3;obtain⟨us3,hT3⟩:=Ss qf;rw[e3]
   ext
   refine⟨_,_,_,Su.ins,SV.cl,SV.known,_,BQ,_,aQ hT3,_,DY,_,rfl,_,AW.k (k:=.inl (g d.t.a)) Su.kn (dt lk RF),?_⟩;have kK:=Kp.gF (K:=K) (o:=.dK (putK aA (.inl (g d.t.a)) (.bl true))) Su.kn;have XN:=kK.keep _ _ hE3 (λz=>by have e:=Su.kn;rw[<- z,hE3]at e;cases e);have du4:∀y∈Z,Cn K H1 _ bG y.1 y.2:=λy hy=>(du3 y hy).kp kK Su.kn (λ_ z=>by cases z) (.inr λ_ z=>by cases z);have tY:Ext K H1 (upd G3 kn (.dK (putK aA (.inl (g d.t.a)) (.bl true)))):=⟨λr o e=>kK.keep r o (qf.at e) (λz=>by rw[z,(nw kn RR).1]at e;cases e),λr xs e m=>kK.mod r xs (qf.mod r xs e m) m⟩
   have sv4:mR K (upd G3 kn (.dK (putK aA (.inl (g d.t.a)) (.bl true)))) av s dx rv last fresh bG (Z.map (·.2)) kn (putK aA (.inl (g d.t.a)) (.bl true)) fl:=⟨kK.keep _ _ Su.ins (Ne.symm ks),kK.keep _ _ Su.bG (Ne.symm kd),af⟩
   generalize upd G3 kn (.dK (putK aA (.inl (g d.t.a)) (.bl true)))=G4 at XN du4 tY sv4 ⊢;rw[e4]
   ext
   have hY4:∀y∈d.Ys,G4 y.1=some (.lst (y.2.map (·.1))):=λy hy=>tY.at (dk.y y hy).1;have lY:d.Ys.length<=3:=by have:=dk.f;omega
   have lF:∀(l:List (Addr×List (V×Nt))),(∀y∈l,y.2.length<=5)->(l.flatMap (·.2)).length<=l.length * 5:=by
     intro l;induction l with
     | nil=>intro _;simp
     | cons y l ih=>
       intro h;have h1:=h y RR;have h2:=ih λy hy=>h y (by simp[hy]);rw[List.flatMap_cons,ax,List.length_cons];omega
   have l15:=lF d.Ys λy hy=>(dk.y y hy).2.2.1;refine⟨⟨_,aR.of XN⟩,λD nD=>Og XN hY4 nD (cn l15 QR) λ_ _ G5 hD5 x5=>?_⟩;have rD:=tY.trans x5;have Po:=sv4.ext x5;have WB:=x5.at XN;have du5:∀y∈Z,Cn K H1 G5 bG y.1 y.2:=λy hy=>(du4 y hy).ext x5;have nts:pQ K G5 (d.Ys.flatMap (·.2)):=λq hq=>by
     obtain⟨y,hy,hq⟩:=List.mem_flatMap.mp hq;exact((dk.y y hy).2.1 q hq).ext rD
   have n40:∀q∈d.Ys.flatMap (·.2),40 * (d.f:Int) + 40<=q.2.n:=λq hq=>by
     obtain⟨y,hy,hq⟩:=List.mem_flatMap.mp hq;exact(dk.y y hy).2.2.2 q hq
   obtain⟨us5,WC⟩:=Ss rD;have XO:=hv.ext rD;have WL:ir K G5 rv a b c pl:=let ⟨R,e,h⟩:=rl;⟨R,e,rD.tup h⟩;rw[e5]
   ext
   refine⟨_,aQ WC,_,xB,rfl,?_⟩;have WM:∀{Ga Gb:Hp},Ext K H1 Ga->Kp K s Ga Gb->Ext K H1 Gb:=λxa k=>⟨λr o e=>k.keep r o (xa.at e) (λz=>by rw[z,(nw s RR).1]at e;cases e),λr xs e m=>k.mod r xs (xa.mod r xs e m) m⟩
   have ds5:bG≠s:=Ne.symm sd;cases ht:d.t with
   | leaf A l h rows=>
     have ok:=dk.ok;have df:=dk.f;rw[ht]at ok XO;unfold bB at ok;obtain⟨f0,el,eh,_,rk⟩:=ok;have ew:wd=Str.ofString "leaf":=by
       obtain⟨T',ws,e,hT',hu⟩:=aS.tt.mp XO;cases e;simp only[ao.cc,ao.nn,aS.ss,aS.ii,aS.ll]at hu;obtain⟨v1,r1',rfl,rfl,v2,r2',rfl,rfl,_⟩:=hu;rw[WC]at hT';exact V.str.inj (List.cons.inj (Option.some.inj hT')).1
     rw[f0]at n40 df;refine bq (by rw[ew]) ⟨_,_,Po.ins,WG,s,dx,rv,last,fresh,bG,_,kn,_,fl,a,b,c,pl,.ref T,H0,g A,l,h,d.lo,d.hi,rows,D,d.Ys.flatMap (·.2),rfl,Po,WL,XO,⟨el,eh⟩,rk,hD5,nts,cn l15 QR,λq hq=>by have:=n40 q hq;omega,by omega,λG6 x6=>⟨true,rfl,bq rfl ?_⟩⟩;have Sv:=Po.ext x6;refine⟨_,_,Sv.ins,WI,_,aI (x6.at WB),s,dx,rv,last,fresh,bG,_,kn,_,fl,_,rfl,Sv,?_,ds5,ks,λG7 sv7 k7=>?_⟩
     . rcases SQ with e | e
       . exact .inl e
       . exact .inr (by rw[e,ab,<- df];rfl)
     . refine q bG [] _ G7 (by rw[List.append_nil];exact sv7) (.inr (by rw[ab,<- df];rfl)) (WM (rD.trans x6) k7) (nw bG RR) (λy hy=>?_) (λy hy=>by cases hy) (by rw[show((d,u):Du×V).1.t=d.t from rfl,ht];rfl);rw[List.append_nil]at hy;exact((du5 y hy).ext x6).kp k7 Sv.ins (λ_ z=>by cases z) (.inr λ_ z=>by cases z)
   | inner A l h aX aU kids=>
     have ok:=dk.ok;have df:=dk.f;rw[ht]at ok XO;unfold bB at ok;obtain⟨rfl,rfl,lp,lb,m,fe,ty,tk⟩:=ok;have hv1:aS K H0 H1 (inD (g A) aX (kids.map λt=>g t.a) aU) (.ref T):=by rw[ht]at hv;unfold inD;rw[dn];exact hv
     obtain⟨T',Pv,C,Y,L,e,WN,⟨nP,hP⟩,⟨nC,hC⟩,nY,hY,eL,hL⟩:=Pn hv1;cases e;have ew:wd=Str.ofString "inner":=by
       have:=rD.tup WN;rw[WC]at this;exact V.str.inj (List.cons.inj (Option.some.inj this)).1
     have XQ:=tk.len;refine aJ (by rw[ew];exactλz=>s5 (V.str.inj z)) ⟨_,_,Po.ins,WH,s,dx,rv,last,fresh,bG,_,kn,_,fl,a,b,c,pl,.ref T,H0,g A,d.lo,d.hi,aX,kids.map (λt=>g t.a),aU,(d.f:Int),D,d.Ys.flatMap (·.2),rfl,Po,WL,hv1.ext rD,DX tk,by rw[ab];exact XQ,by rw[ab,XQ];omega,by rw[ab];omega,ty,by omega,hD5,nts,cn l15 QR,n40,λG6 x6=>⟨true,rfl,aJ RF ?_⟩⟩;have Sv:=Po.ext x6;have ux:=rD.trans x6;refine⟨_,_,Sv.ins,WJ,s,dx,rv,last,fresh,bG,_,kn,_,fl,T,g A,d.lo,d.hi,aX,kids.map (λt=>g t.a),Pv,C,Y,E1,d.Ys.map (λy=>V.ref y.1),rfl,Sv,ux.tup WN,ux.at hP,ux.at hC,by rw[ab];exact XQ,by omega,x6.at WB,by rw[ab];omega,by rw[ab];exact cn lZ RF,λqX us G7 nd sv7 lu aw k7=>?_⟩;rw[ab]at lu;obtain⟨ks',Je⟩:∃ks':List Du,ks'=(kids.zip ((d.lo::aX).zip (aX++[d.hi]))).map λq=>⟨q.1,some (g q.1.a),q.2.1,q.2.2,m,d.Ys++[(Y,L)]⟩:=⟨_,rfl⟩
     have Wu:ks'.length=kids.length:=by
       rw[Je];simp only[ab,my,List.length_cons,ax,List.length_nil];omega
     have tks:ks'.map (·.t)=kids:=by
       rw[Je,dn];exact oe (by simp only[my,List.length_cons,ax,List.length_nil];omega)
     have gks:∀(j:Nat) k,ks'[j]?=some k->∃t l h,k=⟨t,some (g t.a),l,h,m,d.Ys++[(Y,L)]⟩/\kids[j]?=some t/\(d.lo::aX)[j]?=some l/\(aX++[d.hi])[j]?=some h:=by
       intro j k hk;rw[Je,bb]at hk;obtain⟨r,hr,rfl⟩:=bj.mp hk;rw[de,de]at hr;exact⟨_,_,_,rfl,hr.1,hr.2.1,hr.2.2⟩
     refine q qX (ks'.zip us).reverse fl G7 ?_ SQ (WM ux k7) (jU ux nd) (λy hy=>?_) (λy hy=>?_) ?_
     . rw[bo,zt,pw QR];exact sv7
     . rcases da.mp hy with hy | hy
       . exact((((du5 y hy).ext x6).at nd.1)).kp k7 Sv.ins (λ_ z=>by cases z) (.inr λ_ z=>by cases z)
       . obtain⟨j,hj,ej⟩:=fv.mp (t5.mp hy);have hz:(ks'.zip us)[j]?=some y:=by rw[<- ej];exact a9 hj
         rw[de]at hz;obtain⟨t,l,h,ek,g1,g2,g3⟩:=gks j _ hz.1;obtain⟨T7,E7,e7,t7,n7,ne7,h7⟩:=aw j y.2 (g t.a) l h hz.2 (by rw[bb,g1];rfl) g2 g3;rw[ek];exact⟨T7,E7,e7,t7,jU ux n7,ne7,by rw[bo];exact h7⟩
     . obtain⟨j,hj,ej⟩:=fv.mp (t5.mp hy);have hz:(ks'.zip us)[j]?=some y:=by rw[<- ej];exact a9 hj
       rw[de]at hz;obtain⟨t,l,h,ek,g1,g2,g3⟩:=gks j _ hz.1;obtain⟨l',h',z1,z2,z3,z4,z5⟩:=sE tk j t g1;rw[g2]at z1;rw[g3]at z2;cases z1;cases z2;rw[ek];refine⟨⟨z3,.inr rfl,?_,λy' Ip=>?_⟩,z4,z5⟩
       . show(d.Ys++[(Y,L)]).length + m=F;rw[ax];simp only[List.length_cons,List.length_nil];omega
       . rcases da.mp Ip with Ip | Ip
         . obtain⟨y1,y2,y3,y4⟩:=dk.y y' Ip;exact⟨y1,y2,y3,λq hq=>by have:=y4 q hq;show 40 * (m:Int) + 40<=_;omega⟩
         . rw[cw.mp Ip];refine⟨hY,λq hq=>LF (hL q hq),?_,λq hq=>?_⟩
           . have:=ty.l.1;rw[eL,ab]at this;exact this
           . have:=(ty.e q.2 (by rw[eL];exact eP hq)).n;show 40 * (m:Int) + 40<=_;omega
     . rw[vw,show((d,u):Du×V).1.t=d.t from rfl,ht];show _=kids;rw[<- tks,show(λy:Du×V=>y.1.t)=(λk:Du=>k.t) ∘ Prod.fst from rfl,<- dn,oe QR]
 cases ht:d.t with
 | leaf A l h rows=>
   have ok:=dk.ok;rw[ht]at ok Pp;unfold bB at ok;obtain⟨f0,rfl,rfl,_,rk⟩:=ok;obtain⟨T',ws,e,hT',hu⟩:=aS.tt.mp Pp;cases e;simp only[ao.cc,ao.nn,aS.ss,aS.ii,aS.ll]at hu;obtain⟨v1,r1',rfl,rfl,v2,r2',rfl,rfl,v3,r3',rfl,⟨Rw,ws,rfl,nR,hRw,al⟩,rfl⟩:=hu;refine .inr ⟨T,some (g A),_,some rows,H0,rfl,hT',⟨Rw,ws,rfl,nR,hRw,al⟩,λl e=>?_,λl e r hr=>?_,Of rk bd.1 bd.2,λG xG=>⟨_,rfl,bq rfl (k G xG)⟩⟩
   . cases e;have:=rk.l.1;omega
   . cases e;have:=(rk.v r hr).l.2;omega
 | inner A l h aX aU kids=>
   have ok:=dk.ok;rw[ht]at ok Pp;unfold bB at ok;obtain⟨rfl,rfl,lp,lb,m,fe,ty,tk⟩:=ok;have hvI:aS K H0 H (inD (g A) aX (kids.map λt=>g t.a) aU) (.ref T):=by unfold inD;rw[dn];exact Pp
   obtain⟨T',ws,e,hT',hu⟩:=aS.tt.mp hvI;cases e;simp only[ao.cc,ao.nn,aS.ss,aS.ii,aS.ll]at hu;obtain⟨v1,r1',rfl,rfl,v2,r2',rfl,rfl,v3,r3',rfl,⟨Pv,ps,rfl,nP,hP,aP⟩,v4,r4',rfl,⟨C,cs,rfl,nC,hC,aC⟩,v5,r5',rfl,⟨Y,ys,rfl,nY,hY,aY⟩,rfl⟩:=hu;rw[aC.ints]at hC;have XQ:=tk.len;have e6:aU.map Nt.d=(aU.map Nt.rn).map RN.d:=by rw[dn];rfl
   rw[e6]at aY;refine .inl ⟨T,_,rfl,hT',false,rfl,aJ RF ?_⟩;refine⟨T,some (g A),_,C,_,_,some aX,some (aU.map Nt.rn),H0,rfl,hT',hC,by rw[ab];omega,⟨Pv,ps,rfl,nP,hP,aP⟩,λl e=>by cases e;omega,⟨Y,ys,rfl,nY,hY,aY⟩,λl e=>?_,LN ty QR bd.1 bd.2,λG xG=>⟨_,rfl,aJ RF (k G xG)⟩⟩;cases e;have:=ty.l.1;rw[ab];omega
theorem vW {a c fr:Int}{t:Tr}{v:V}(h:aS K H0 H (kq a b c pl last ms fr g t) v):∃(T R M W:Addr) (us:List V),v=.ref T/\tupQ K H T=some [.ref R,.int last,.ref M,.int fr,.ref W]/\tupQ K H R=some [.int a,.int b,.int c,.str pl]/\(new K H0 M/\H M=some (.lst (ms.map V.int)))/\new K H0 W/\H W=some (.lst us)/\ao K H0 H (t.pre.map (Tr.told g)) us:=by
 unfold kq at h;simp only[aS.tt,ao.cc,ao.nn,aS.ss,aS.ii,aS.ll]at h;obtain⟨T,us,rfl,hT,v1,r1,rfl,⟨R,ws,rfl,hR,u1,q1,rfl,rfl,u2,q2,rfl,rfl,u3,q3,rfl,rfl,u4,q4,rfl,rfl,rfl⟩,v2,r2,rfl,rfl,v3,r3,rfl,⟨M,ps,rfl,n1,h1,a1⟩,v4,r4,rfl,rfl,v5,r5,rfl,⟨W,ys,rfl,n3,h3,a3⟩,rfl⟩:=h;rw[a1.ints]at h1;exact⟨T,R,M,W,ys,rfl,hT,hR,⟨n1,h1⟩,n3,h3,a3⟩
theorem Fy {a c:Int}(r:DO a b c pl):ki [some a,some b,some c] pl=true:=by
 have h1:=r.a;have h2:=r.b;have h3:=r.c;have h4:Lr pl=true:=by
   rcases r.p with e | e <;> rw[e] <;> rfl
 simp only[ki,wO,h4,cm,FC,Qr];omega
inductive Fz (K:Frag)(vs:List V)(H:Hp)(Q:VK)(E9:XK):Prop
 | mk (v H0 a b c pl f last ms fr g t:_) (_:vs=[v]) (_:aS K H0 H (kq a b c pl last ms fr g t) v) (_:Th a b c pl f last ms fr g t) (_:∀H',Ext K H H'->Q (.bl true) H')
include B in
theorem BU (F:bQ K "is_frame" "is_frame" vA f fd)(iL:⋯ "is_rule" 3 ["thing"] (DK K))(bD:⋯ "is_whole_from" 2 ["thing","low"] uA)(gj:⋯ "are_rising_from" 3 ["thing","low"] (Pb K)):(!0) 4 f fd ["image"] (Fz K):=by
 exists 0,["image","rule","last","marks","fresh","rooms"]
 obtain⟨v,H0,a,b,c,pl,f,last,ms,fr,g,t,rfl,hv,wo,q⟩:=h;obtain⟨T,R,M,W,us,rfl,hT,hR,⟨nM,hM⟩,nW,hW,al⟩:=vW hv;refine⟨_,(ak (gJ (tw (rR (dZ (Ck (dG (jm (yM B.isinstance bg (jH rfl B.tuple gW)))))) (je (cM (cg (om sR) (jm (t6 B.len bg)) (jm ei) (aF _)))))) (aE (aN rQ)) b8) (ak (iS bg (lA (dD (n:=5) rfl (ay (gn 1 nk) (ay (EC (i:=2) nk rfl (Or.inr rfl)) (ay (gn 3 nk) (ay (gn 4 nk) (ay (gn 5 nk) dR)))))))) (ak (gJ (tw (rR (dZ (dG (ec iL hr (aa cF ah)))) (rR (dZ (dG (ec bD hr (aa fC (aa ei ah))))) (je (dZ (dG (ec gj hr (aa gB (aa ei ah))))))))) (aE (aN rQ)) b8) (aE (aN (Az (eE (jm (bW (HF (cB rfl)) rfl B.all gy (aa (qe (ck [ "mark","last" ] [none,some 2]) rfl (j5 (bU Td)) (λ_ _ _ _=>(gn 0 nk)) (λ_ _ _ _=>c6) (λ_ _ _ _=>(fE (mA fX) bg cF (aF _)))) ah))) (eE (ec bD hr (aa nH (aa ei ah))) (gA (yM B.isinstance tZ (jH rfl B.list cE))))))))))),?_⟩;simp_arith [aQ hT,hT];have ru:=Fy wo.rl;have la:=wo.la;have ff:=wo.fr;have f1:fO 0 (some last)=true:=Dx QR;have f2:fO 1 (some fr)=true:=Dx QR;refine⟨_,.tup hT,true,rfl,aJ RF (aJ RR ⟨R,[some a,some b,some c],pl,rfl,hR,_,rfl,aJ (by rw[ru];decide) ⟨some last,0,rfl,_,rfl,aJ (by rw[f1];decide) ⟨.ref M,1,rfl,.inr ⟨M,ms,rfl,hM,by have:=wo.ml;omega,λG1 x1=>⟨_,rfl,aJ ?_ ⟨⟨_,aR.of (x1.at hM)⟩,λD nD=>?_⟩⟩⟩⟩⟩⟩)⟩
 . rw[jT wo.up,eI.mpr (λm hm=>Dx (wo.mr m hm).1)];decide
 . refine gf (L:=ms) (f:=V.int) (g:=λ_=>V.bl true) (aR.of (x1.at hM)) nD (by have:=wo.ml;omega) (λm hm H' Q' xx qq=>?_) (λG2 hD x2=>?_)
   . ext
     rw[Dx (wo.mr m hm).2];exact qq _ Ext.refl
   rw[all_map]at hD;have jf:=x1.trans x2;refine⟨_,aR.of hD,?_⟩;rw[all_true];exact bq rfl ⟨some fr,1,rfl,_,rfl,bq f2 ⟨_,.inl (.lst (jf.at hW)),true,rfl,q _ jf⟩⟩
theorem qY:∀ts:List Tr,ts.length<=(c8 ts).length
 | []=>ar _
 | t::ts=>by
   have:=qY ts;show ts.length + 1<=(t.pre++c8 ts).length;rw[ax,g7];simp only[List.length_cons];omega
inductive FD (K:Frag)(vs:List V)(H:Hp)(Q:VK)(E9:XK):Prop
 | mk (v H0 a b c pl f last ms fr g t:_) (_:vs=[v]) (_:aS K H0 H (kq a b c pl last ms fr g t) v) (_:Th a b c pl f last ms fr g t) (_:∀H',Ext K H H'->Q .bO H')
include B in
theorem vX (F:bQ K "image_fault" "image_fault" o7 f fd)(SV:Od K av)(pT:⋯ "is_frame" 4 ["image"] (Fz K))(vY:Maker P w K mg base "Survey" 1 ["self","rule","last","fresh"] [] av (BP K av))(iw:jJ P w K mg base av "takes" 8 ["self","room"] [] (Fx K av)):(!0) 9 f fd ["image"] (FD K):=by
 exists 0,["image","rule","last","marks","fresh","rooms","survey","place","room"]
 obtain⟨v,H0,a,b,c,pl,f,last,ms,fr,g,t,rfl,hv,wo,q⟩:=h;obtain⟨T,R,M,W,us,rfl,hT,hR,⟨nM,hM⟩,nW,hW,al⟩:=vW hv;have i7:=SV.cl;refine⟨_,(ak (gJ (dZ (dG (ec pT hr (aa bg ah)))) (aE (aN (Q5 pH ei))) b8) (ak (iS bg (lA (dD (n:=5) rfl (ay (gn 1 nk) (ay (gn 2 nk) (ay (gn 3 nk) (ay (gn 4 nk) (ay (gn 5 nk) dR)))))))) (ak (ss 6 nk (u7 vY (rm hr) rfl (aa cF (aa fC (aa nH ah))))) (ak (lT PassesOwn.never rfl (ieM (OR rfl B.enumerate (am (aa tZ ah)))) (lA (dD (n:=2) rfl (ay (gn 7 nk) (ay (gn 8 nk) dR)))) (aE (gJ (dZ (uQ (RL (u6 iw i7 (rm hr) NY (aa yL ah))) (λ_=>rfl))) (aE (aN HL)) b8))) (aE (aN (YD (uQ (mq (eK NY)) (λ_=>rfl)) (t6 B.len tZ) iQ))))))),?_⟩
 ext
 refine⟨.ref T,H0,a,b,c,pl,f,last,ms,fr,g,t,rfl,hv,wo,λH1 xf=>⟨true,rfl,aJ RF ⟨_,xf.tup hT,rfl,_,_,rfl,_,_,rfl,_,_,rfl,_,_,rfl,_,_,rfl,rfl,λx dx nx nd ne=>?_⟩⟩⟩;refine⟨x,dx,.ref R,last,fr,rfl,af,λbG kn T0 E0' H2 nw sv N2 hE0 n1 n2 n3 k2=>⟨rfl,?_⟩⟩;have jf:Ext K H1 H2:=by
   have x1:=Ext.made (K:=K) (o:=.ins av dx []) (o':=.own x) nx nd ne;exact⟨λq o e=>k2.keep q o (x1.same q o e) (aH e nx.1),λa xs e m=>k2.mod a xs (x1.mod a xs e m) m⟩
 have nw1:∀y∈[bG,kn,E0'],new K H1 y:=λy hy=>by
   obtain⟨h1,h2⟩:=nw y hy;exact(nF.mp (nF.mp h1).2).2
 have hv1:=hv.ext xf;have WO:=xf.at hW;have ZR:=al.ext xf;have nd1:=wo.nd;rw[dj,dn]at nd1;have LD:t.pre.length<=1000:=by
   have h1:=wo.ok.jw.1;rw[dj,ab]at h1;have h2:sz f<=1000:=by
     have:=wo.f3;have:f=0∨f=1∨f=2∨f=3:=QR
     rcases this with rfl | rfl | rfl | rfl <;> decide
   omega
 have Tj:us.length=t.pre.length:=by rw[al.len,ab]
 ext
 refine⟨⟨_,aR.of (jf.at WO)⟩,?_⟩;refine HE (xs:=us) (λi σ G=>Zm λ(v7 v8:Option V) (bG kn:Addr) (aA:List (Key×V)) (fl:V) (Z:List (Du×V))=>V7 (uy σ [some (V.ref T),some (V.ref R),some (V.int last),some (V.ref M),some (V.int fr),some (V.ref W),some (V.ref x),v7,v8]) (mR K G av x dx (.ref R) last fr bG (Z.map (·.2)) kn aA fl) (Ext K H1 G) (∀y∈[x,bG,kn],new K H1 y) (∀y∈Z,Cn K H1 G bG y.1 y.2) (∀y∈Z,XJ K H1 a b c g f y.1/\0<=y.1.lo/\y.1.hi<=10 ^ 12) (c8 (Z.reverse.map λy=>y.1.t)=t.pre.drop i) ((∀n,dO aA (.inl n)≠none->n∈(t.pre.take i).map (g ∘ Tr.a))) (fl=.bO∨fl=.int f) (aA.length<=i) (i<=t.pre.length)) ?_ ?_ ?_ ?_
 . refine⟨_,_,bG,kn,[],.bO,[(⟨t,none,0,10 ^ 12,f,[]⟩,.ref T0)],rfl,sv,jf,?_,?_,?_,?_,?_,.inl rfl,ar _,hU _⟩
   . intro y hy;rcases List.mem_cons.mp hy with rfl | hy
     . exact nx
     . exact nw1 y (by simp only[List.mem_cons,List.not_mem_nil,Fm]at hy ⊢;rcases hy with h | h <;> simp[h])
   . intro y hy;rw[cw.mp hy];exact⟨T0,E0',rfl,N2,nw1 E0' RR,Ne.symm n2,hE0⟩
   . intro y hy;rw[cw.mp hy];exact⟨⟨wo.ok,.inl rfl,Nat.zero_add _,λy hy=>by cases hy⟩,kl _,kl _⟩
   . show t.pre++[]=_;rw[List.append_nil];rfl
   . intro n hn;exact absurd rfl hn
 . rintro i σ G _ ⟨v7,v8,bG,kn,aA,fl,Z,rfl,sv,xG,_⟩;exact aR.of (xG.at WO)
 . rintro i y σ G T' hy ⟨v7,v8,bG,kn,aA,fl,Z,rfl,sv,xG,nw,du,dk,hp,hk,SQ,lk,hi⟩ nT;have jg:i < t.pre.length:=by rw[<- Tj];exact(bc.mp hy).1
   obtain⟨u,hu⟩:∃u,t.pre[i]?=some u:=⟨_,a9 jg⟩
   have ed:t.pre.drop i=u::t.pre.drop (i + 1):=by
     rw[List.drop_eq_getElem_cons jg];rw[a9 jg]at hu;rw[Option.some.inj hu]
   have et:t.pre.take (i + 1)=t.pre.take i++[u]:=by rw[List.take_add_one,hu];rfl
   have OV:aS K H0 H1 (u.told g) y:=by
     obtain⟨d,hd,ha⟩:=ZR.get hy;rw[bb,hu]at hd;rw[Option.some.inj hd];exact ha
   obtain⟨Z0,z,rfl⟩:∃Z0 z,Z=Z0++[z]:=by
     rcases mn Z with e | ⟨Z0,z,e⟩
     . rw[e,ed]at hp;cases hp
     . exact⟨Z0,z,by rw[e];simp⟩
   have rv:(Z0++[z]).reverse.map (λy=>y.1.t)=z.1.t::Z0.reverse.map (λy=>y.1.t):=by rw[pE];rfl
   rw[rv,ed]at hp;have Ri:z.1.t::(c8 z.1.t.kids++c8 (Z0.reverse.map λy=>y.1.t))=u::t.pre.drop (i + 1):=by
     rw[<- hp];show _=z.1.t.pre++_;rw[g7];rfl
   obtain⟨rfl,lg⟩:=List.cons.inj Ri;have lZ:Z0.length<=1000:=by
     have h1:=qY (Z0.reverse.map λy=>y.1.t);have h2:=congrArg List.length lg;rw[ab,fo]at h1;rw[ax,i5]at h2;omega
   have ua:z.1.t.a∈t.adr:=by rw[dj];exact eP (ba hu)
   have fresh:dO aA (.inl (g z.1.t.a))=none:=by
     cases e:dO aA (.inl (g z.1.t.a)) with
     | none=>rfl
     | some v=>
       have h1:=hk _ (by rw[e];simp);have h2:(((t.pre.take i).map (g ∘ Tr.a))++[g z.1.t.a]).Nodup:=by
         have:((t.pre.take (i + 1)).map (g ∘ Tr.a)).Nodup:=by
           rw[List.map_take];exact List.Sublist.nodup (tf _ _) nd1
         rw[et,bo]at this;exact this
       rw[oP]at h2;exact absurd rfl (h2.2.2 _ h1 _ RR)
   obtain⟨dz,b1,b2⟩:=dk z RR;have xT:=bX (.tup [V.int i,y]) nT
   ext
   refine⟨_,_,(sv.ext xT).ins,WK,x,dx,.ref R,last,fr,bG,kn,aA,fl,a,b,c,pl,H0,H1,y,g,f,Z0,z,rfl,sv.ext xT,xG.trans xT,nw,⟨R,rfl,xf.tup hR⟩,λq hq=>(du q hq).ext xT,dz,OV,wo.gr _ ua,fresh,wo.f3,SQ,wo.la.1,by omega,lZ,⟨b1,b2⟩,λqX Z' fl' G' sv' hfl' x' YN du' dk' ek=>⟨true,rfl,aJ RF ?_⟩⟩;refine⟨_,_,qX,kn,_,fl',Z0++Z',rfl,sv',x',?_,du',?_,?_,?_,hfl',cn (jh _ _ _) QR,jg⟩
   . intro w hw;simp only[List.mem_cons,List.not_mem_nil,Fm]at hw;rcases hw with rfl | rfl | rfl
     . exact nw _ RR
     . exact YN
     . exact nw _ RR
   . intro w hw;rcases da.mp hw with hw | hw
     . exact dk w (by simp[hw])
     . obtain⟨d1,d2,d3⟩:=dk' w hw;exact⟨d1,by omega,by omega⟩
   . rw[pE,bo,ek,qR];exact lg
   . intro n hn;rw[AU]at hn;rw[et,bo]
     by_cases e:n=g z.1.t.a
     . rw[e];simp
     . rw[Ee (λz=>e (Sum.inl.inj z))]at hn;exact lx _ (hk n hn)
 . rintro σ G ⟨v7,v8,bG,kn,aA,fl,Z,rfl,sv,xG,nw,du,dk,hp,_⟩;rw[Tj,List.drop_length]at hp;have eZ:Z=[]:=by
     have h1:=qY (Z.reverse.map λy=>y.1.t);rw[hp,ab,fo]at h1;exact ot.mp (by simpa using h1)
   subst eZ
   ext
   exact⟨_,_,_,sv.ins,SV.cl,SV.bG,_,Ae,false,.inl ⟨_,aR.of sv.bG,rfl⟩,aJ RF (q _ (xf.trans xG))⟩
inductive LO (K:Frag)(vs:List V)(H:Hp)(Q:VK)(E9:XK):Prop
 | mk (c us:_) (rows:List (Int×List jq)) (H0) (_:vs=[.ref c]) (_:H c=some (.lst us)) (_:ao K H0 H (rows.map fk) us) (_:rows.length<=1000) (_:∀D ws H',new K H D->H' D=some (.lst ws)->ao K H H' (rows.map fk) ws->Ext K H H'->Q (.ref D) H')
include B in
theorem BV (F:bQ K "own_rows" "own_rows" vq f fd):(!0) 1 f fd ["rows"] (LO K):=by
 exists 0,["rows"]
 obtain⟨c,us,rows,H0,rfl,hc,al,lr,q⟩:=h;refine⟨_,(aE (aN (qe (ck [ "key","versions" ] [none,none]) rfl (j5 (bU cG)) (λ_ _ _ _=>(lA (iT K (n:=2) rfl (ay (gn 0 nk) (ay (gn 1 nk) dR))))) (λ_ _ _ _=>c6) (λ_ _ _ _=>(Tc (uU K (am (aa bg (aa (dI (iU K) rfl B.list cE (aa cF ah)) ah))))))))),?_⟩
 ext
 refine⟨⟨_,aR.of hc⟩,λD nD=>Fj hc al nD lr (λk B ys H' Q' hB qq=>?_) (λws H' hD a' xx=>q D ws H' nD hD a' xx)⟩;simp_arith [aI hB];exactλl nl T nT=>qq l T nl nT
def Ie (n:Int)(R:Addr):List (Str×V):=[(("number":Str),.int n),(("rows":Str),.ref R)]
def Af (n:Int)(Pv C Y:Addr):List (Str×V):=[(("number":Str),.int n),(("pivots":Str),.ref Pv),(("children":Str),.ref C),(("tray":Str),.ref Y)]
theorem Oh :bC "rows" (.ref R) (bC "number" (.int n) [])=Ie n R:=by
 have k1:¬ (("number":Str)="rows"):=Q1
 simp only[bC,k1,FR,Ie]
theorem Oi {Y:Addr}:bC "tray" (.ref Y) (bC "children" (.ref C) (bC "pivots" (.ref Pv) (bC "number" (.int n) [])))=Af n Pv C Y:=by
 have k1:¬ (("number":Str)="pivots"):=Q1
 have k2:¬ (("number":Str)="children"):=Q1
 have k3:¬ (("pivots":Str)="children"):=Q1
 have k4:¬ (("number":Str)="tray"):=Q1
 have k5:¬ (("pivots":Str)="tray"):=Q1
 have k6:¬ (("children":Str)="tray"):=Q1
 simp only[bC,k1,k2,k3,k4,k5,k6,FR,Af]
theorem fm {f:Str}{y:V}{fs:List (Str×V)}{n:Nat}(h:fs.length<=n):(bC f y fs).length<=n + 1:=by
 have:=lP f y fs;omega
theorem i8 {f:Str}{y:V}{fs:List (Str×V)}{n m:Nat}(h:fs.length<=n)(h2:n + 1 < m):(bC f y fs).length < m:=dt (fm h) h2
inductive pU (K:Frag)(C:Addr)(vs:List V)(H:Hp)(Q:VK)(E9:XK):Prop
 | mk (x dx n R:_) (_:vs=[.ref x,.int n,.ref R]) (_:H x=some (.ins C dx [])) (_:Q .bO (upd H x (.ins C dx (Ie n R))))
include B in
theorem sG (F:bQ K "__init__" "Leaf.__init__" kY f fd):(!0) 1 f fd ["self","number","rows"] (pU K aM):=by
 exists 0,["self","number","rows"]
 obtain⟨x,dx,n,R,rfl,hx,q⟩:=h;have aap:=B.cL;refine⟨_,(ak (tX (ie cG lE)) (aE (tX (ie cG HN)))),?_⟩
 ext
 refine⟨_,_,_,hx,B.cL,B.nL.1,by decide,_,_,_,rfl,B.cL,B.nL.2,i8 (ar 0) RF,?_⟩;rw[iD,Oh];exact q
inductive tK (K:Frag)(C:Addr)(vs:List V)(H:Hp)(Q:VK)(E9:XK):Prop
 | mk (x dx n Pv Ch Y:_) (_:vs=[.ref x,.int n,.ref Pv,.ref Ch,.ref Y]) (_:H x=some (.ins C dx [])) (_:Q .bO (upd H x (.ins C dx (Af n Pv Ch Y))))
include B in
theorem qZ (F:bQ K "__init__" "Inner.__init__" jK f fd):(!0) 1 f fd ["self","number","pivots","children","tray"] (tK K az):=by
 exists 0,["self","number","pivots","children","tray"]
 obtain⟨x,dx,n,Pv,C,Y,rfl,hx,q⟩:=h;have XR:=B.cI;refine⟨_,(ak (tX (ie cG lE)) (ak (tX (ie cG HN)) (ak (tX (ie cG Td)) (aE (tX (ie cG Wc)))))),?_⟩
 ext
 refine⟨_,_,_,hx,B.cI,B.nI.1,by decide,_,_,_,rfl,B.cI,B.nI.2.1,i8 (ar 0) RF,_,_,_,rfl,B.cI,B.nI.2.2.1,i8 (fm (ar 0)) RF,_,_,_,rfl,B.cI,B.nI.2.2.2,i8 (fm (fm (ar 0))) RF,?_⟩;simp only[iD];rw[Oi];exact q
mutual
def i9 (K:Frag)(cL cI:Addr)(H:Hp)(g:Addr->Int):Tr->Addr->Prop
 | .leaf a _ _ rows,o=>∃dx R us H0,H o=some (.ins cL dx (Ie (g a) R))/\H R=some (.lst us)/\ao K H0 H (rows.map fk) us
 | .inner a _ _ aX aU ks,o=>∃dx Pv C Y us os H0,H o=some (.ins cI dx (Af (g a) Pv C Y))/\H Pv=some (.lst (aX.map V.int))/\H C=some (.lst (os.map V.ref))/\H Y=some (.lst us)/\ao K H0 H (aU.map Nt.d) us/\cy K cL cI H g ks os
def cy (K:Frag)(cL cI:Addr)(H:Hp)(g:Addr->Int):List Tr->List Addr->Prop
 | [],os=>os=[]
 | t::ts,os=>∃o r,os=o::r/\i9 K cL cI H g t o/\cy K cL cI H g ts r
end
mutual
theorem i9.ext {cL cI:Addr}{H H':Hp}{g:Addr->Int}(x:Ext K H H'):∀{t:Tr}{o:Addr},i9 K cL cI H g t o->i9 K cL cI H' g t o
 | .leaf a l h rows,o,p=>by
   unfold i9 at p ⊢;obtain⟨dx,R,us,H0,h1,h2,h3⟩:=p;exact⟨dx,R,us,H0,x.at h1,x.at h2,h3.ext x⟩
 | .inner a l h aX aU ks,o,p=>by
   unfold i9 at p ⊢;obtain⟨dx,Pv,C,Y,us,os,H0,h1,h2,h3,h4,h5,h6⟩:=p;exact⟨dx,Pv,C,Y,us,os,H0,x.at h1,x.at h2,x.at h3,x.at h4,h5.ext x,cy.ext x h6⟩
theorem cy.ext {cL cI:Addr}{H H':Hp}{g:Addr->Int}(x:Ext K H H'):∀{ts:List Tr}{os:List Addr},cy K cL cI H g ts os->cy K cL cI H' g ts os
 | [],os,p=>by unfold cy at p ⊢;exact p
 | t::ts,os,p=>by
   unfold cy at p ⊢;obtain⟨o,r,e,h1,h2⟩:=p;exact⟨o,r,e,i9.ext x h1,cy.ext x h2⟩
end
mutual
theorem i9.gF {cL cI A:Addr}{H:Hp}{g:Addr->Int}{u0 u:HO}(hA:H A=some u0)(ou:Pg u0)(nl:∀dx n R,u0≠.ins cL dx (Ie n R))(ni:∀dx n P C Y,u0≠.ins cI dx (Af n P C Y)):∀{t:Tr}{o:Addr},i9 K cL cI H g t o->i9 K cL cI (upd H A u) g t o
 | .leaf a l h rows,o,p=>by
   unfold i9 at p ⊢;obtain⟨dx,R,us,H0,h1,h2,h3⟩:=p;exact⟨dx,R,us,H0,by rw[au (λz=>by rw[z,hA]at h1;exact nl _ _ _ (Option.some.inj h1))];exact h1,jR hA ou h2,h3.gF hA ou⟩
 | .inner a l h aX aU ks,o,p=>by
   unfold i9 at p ⊢;obtain⟨dx,Pv,C,Y,us,os,H0,h1,h2,h3,h4,h5,h6⟩:=p;exact⟨dx,Pv,C,Y,us,os,H0,by rw[au (λz=>by rw[z,hA]at h1;exact ni _ _ _ _ _ (Option.some.inj h1))];exact h1,jR hA ou h2,jR hA ou h3,jR hA ou h4,h5.gF hA ou,cy.gF hA ou nl ni h6⟩
theorem cy.gF {cL cI A:Addr}{H:Hp}{g:Addr->Int}{u0 u:HO}(hA:H A=some u0)(ou:Pg u0)(nl:∀dx n R,u0≠.ins cL dx (Ie n R))(ni:∀dx n P C Y,u0≠.ins cI dx (Af n P C Y)):∀{ts:List Tr}{os:List Addr},cy K cL cI H g ts os->cy K cL cI (upd H A u) g ts os
 | [],os,p=>by unfold cy at p ⊢;exact p
 | t::ts,os,p=>by
   unfold cy at p ⊢;obtain⟨o,r,e,h1,h2⟩:=p;exact⟨o,r,e,i9.gF hA ou nl ni h1,cy.gF hA ou nl ni h2⟩
end
theorem i9.sA {cL cI:Addr}{u:HO}(hA:H A=some (.dK aA)){t:Tr}{o:Addr}(h:i9 K cL cI H g t o):i9 K cL cI (upd H A u) g t o:=h.gF hA Ph (λ_ _ _ z=>by cases z) (λ_ _ _ _ _ z=>by cases z)
theorem cy.len {cL cI:Addr}{H:Hp}{g:Addr->Int}:∀{ts:List Tr}{os:List Addr},cy K cL cI H g ts os->os.length=ts.length
 | [],os,p=>by unfold cy at p;rw[p];rfl
 | t::ts,os,p=>by
   unfold cy at p;obtain⟨o,r,rfl,h1,h2⟩:=p;rw[List.length_cons,List.length_cons,cy.len h2]
theorem FE {l h:Int}{rows:List (Int×List jq)}{v:V}(p:aS K H0 H ((Tr.leaf A l h rows).told g) v):Sb λ(T Rw:Addr) (us:List V)=>Al4 (v=.ref T) (tupQ K H T=some [.str "leaf",.int (g A),.ref Rw]) (H Rw=some (.lst us)) (ao K H0 H (rows.map fk) us):=by
 obtain⟨T,ws,e,hT,hu⟩:=aS.tt.mp p;simp only[ao.cc,ao.nn,aS.ss,aS.ii,aS.ll]at hu;obtain⟨v1,r1',rfl,rfl,v2,r2',rfl,rfl,v3,r3',rfl,⟨Rw,us,rfl,nR,hRw,al⟩,rfl⟩:=hu;exact⟨T,Rw,us,e,hT,hRw,al⟩
theorem BW {l h:Int}{aU:List Nt}{ks:List Tr}{v:V}(p:aS K H0 H ((Tr.inner A l h aX aU ks).told g) v):Ex5 λ(T Pv C Y:Addr) (us:List V)=>V6 (v=.ref T) (tupQ K H T=some [.str "inner",.int (g A),.ref Pv,.ref C,.ref Y]) (H Pv=some (.lst (aX.map V.int))) (H C=some (.lst (ks.map λt=>V.int (g t.a)))) (H Y=some (.lst us)) (ao K H0 H (aU.map Nt.d) us):=by
 obtain⟨T,ws,e,hT,hu⟩:=aS.tt.mp p;simp only[ao.cc,ao.nn,aS.ss,aS.ii,aS.ll]at hu;obtain⟨v1,r1',rfl,rfl,v2,r2',rfl,rfl,v3,r3',rfl,⟨Pv,ps,rfl,nP,hP,aP⟩,v4,r4',rfl,⟨C,cs,rfl,nC,hC,aC⟩,v5,r5',rfl,⟨Y,ys,rfl,nY,hY,aY⟩,rfl⟩:=hu;have e1:(ks.map λt=>PyData.int (g t.a))=(ks.map λt=>g t.a).map PyData.int:=by rw[dn];rfl
 rw[e1]at aC;rw[aC.ints,dn]at hC;rw[aP.ints]at hP;exact⟨T,Pv,C,Y,ys,e,hT,hP,hC,hY,aY⟩
inductive vZ (K:Frag)(cL cI:Addr)(vs:List V)(H:Hp)(Q:VK)(E9:XK):Prop
 | mk (t:Tr) (H0 v m aA) (os:List Addr) (a b c f lo hi) (g:Addr->Int) (_:vs=[v,.ref m]) (_:aS K H0 H (t.told g) v) (_:bB a b c t f lo hi) (_:H m=some (.dK aA)) (_:cy K cL cI H g t.kids os) (_:(∀q∈t.kids.zip os,dO aA (.inl (g q.1.a))=some (.ref q.2))) (_:∀o H',i9 K cL cI H' g t o->Ext K H H'->Q (.ref o) H')
include B in
theorem Ag (F:bQ K "room_made" "room_made" jl f fd)(gH:⋯ "own_rows" 1 ["rows"] (LO K))(sH:Maker P w K mg base "Leaf" 1 ["self","number","rows"] [] aM (pU K aM))(Ah:Maker P w K mg base "Inner" 1 ["self","number","pivots","children","tray"] [] az (tK K az)):(!0) 3 f fd ["told","made"] (vZ K aM az):=by
 exists 0,["told","made","word","number","rows","pivots","numbers","tray"]
 obtain⟨t,H0,v,m,aA,os,a,b,c,f,lo,hi,g,rfl,hv,ok,hm,ho,eo,q⟩:=h;refine aq (rest:=(aj jl).drop 2) (aE (aN (u7 Ah (rm hr) rfl (aa gB (aa (dI b9 rfl B.list cE (aa tZ ah)) (aa (qe (ck [ "child","made" ] [none,some 1]) rfl (j5 (bU NY)) (λ_ _ _ _=>(gn 0 nk)) (λ_ _ _ _=>c6) (λ_ _ _ _=>(wL (fz hr.units lE cG (λ_ _=>rfl))))) (aa (dI b9 rfl B.list cE (aa HL ah)) ah))))))) λr2 J2 e2=>?_;refine aq (rest:=(aj jl).drop 1) (ak (iS bg (lA (dD (n:=5) rfl (ay (gn 2 nk) (ay (gn 3 nk) (ay (gn 5 nk) (ay (gn 6 nk) (ay (gn 7 nk) dR)))))))) J2) λr1 J1 e1=>?_;refine⟨_,(ak (gJ (cM (cg (om fq) (jm (iq bg)) (jm cJ) (aF _))) (ak (iS bg (lA (dD (n:=3) rfl (ay (gn 2 nk) (ay (gn 3 nk) (ay (gn 4 nk) dR)))))) (aE (aN (u7 sH (rm hr) rfl (aa gB (aa (ec gH hr (aa nH ah)) ah)))))) b8) J1),?_⟩;cases t with
 | leaf A' l h rows=>
   obtain⟨T,Rw,us,rfl,hT,hRw,al⟩:=FE hv;simp_arith [aQ hT,hT,xB];unfold bB at ok;refine⟨Rw,us,rows,H0,rfl,hRw,al,by have:=ok.2.2.2.2.l;omega,λD ws H1 nD hD aD x1 x dx nx Pr ne=>⟨x,dx,g A',D,rfl,af,rfl,?_⟩⟩;rw[iD];have w2:=Ext.made (K:=K) (o:=.ins aM dx (Ie (g A') D)) (o':=.own x) nx Pr ne;refine q x _ ?_ (x1.trans w2);unfold i9;exact⟨dx,D,ws,H,af,w2.at hD,aD.ext w2⟩
 | inner A' l h aX aU ks=>
   obtain⟨T,Pv,C,Y,us,rfl,hT,hP,hC,hY,aY⟩:=BW hv;simp_arith [aQ hT,hT,xB];refine aJ s5 ?_;rw[e1];simp_arith [hT];rw[e2]
   ext
   have lk:=ho.len;have l4:ks.length<=4:=by
     unfold bB at ok;obtain⟨_,_,l3,_,g',_,_,ok⟩:=ok;have:=bz.len ok;omega
   refine⟨_,aI hP,λl1 m1=>⟨⟨_,aR.of ((Ext.new m1).at hC)⟩,λD nD=>?_⟩⟩;have y1:=bX (.lst (aX.map V.int)) m1;have ez:ks.map (λt=>V.int (g t.a))=(ks.zip os).map λq=>V.int (g q.1.a):=by
     rw[show(λq:Tr×Addr=>V.int (g q.1.a))=(λt:Tr=>V.int (g t.a)) ∘ Prod.fst from rfl,<- dn,oe (by rw[lk];exact ar _)]
   have eo2:(ks.zip os).map (λq=>V.ref q.2)=os.map V.ref:=by
     rw[show(λq:Tr×Addr=>V.ref q.2)=V.ref ∘ Prod.snd from rfl,<- dn,pw (by rw[lk];exact ar _)]
   rw[ez]at hC;refine gf (L:=ks.zip os) (f:=λq=>V.int (g q.1.a)) (g:=λq=>V.ref q.2) (aR.of (y1.at hC)) nD (by rw[my];omega) (λq hq H' Q' xx qq=>?_) (λH1 hD x1=>?_)
   . ext
     exact⟨_,(eo q hq) ▸ tT.k (k:=.inl (g q.1.a)) ((y1.trans xx).at hm),qq _ Ext.refl⟩
   rw[eo2]at hD;have x2:=y1.trans x1;refine⟨_,aI (x2.at hY),λl2 m2 x dx nx Pr ne=>⟨x,dx,g A',l1,D,l2,rfl,af,rfl,?_⟩⟩;rw[iD];have y3:=bX (.lst us) m2;have w2:=Ext.made (K:=K) (o:=.ins az dx (Af (g A') l1 D l2)) (o':=.own x) nx Pr ne;have z2:=y3.trans w2;refine q x _ ?_ (x2.trans z2);unfold i9;exact⟨dx,l1,D,l2,us,os,H0,af,(x1.trans z2).at af,z2.at hD,w2.at af,aY.ext (x2.trans z2),ho.ext (x2.trans z2)⟩
mutual
theorem sI:∀(t:Tr) (j:Nat) (u:Tr),t.pre[j]?=some u->∀v∈u.kids,v∈t.pre.drop (j + 1)
 | .leaf a l h rows,j,u,hu,v,hv=>by
   unfold Tr.pre at hu;cases j with
   | zero=>cases hu;cases hv
   | succ j=>cases hu
 | .inner a l h aX aU ks,j,u,hu,v,hv=>by
   unfold Tr.pre at hu ⊢;cases j with
   | zero=>cases hu;exact vS hv
   | succ j=>exact wg ks j u hu v hv
theorem wg:∀(ts:List Tr) (j:Nat) (u:Tr),(c8 ts)[j]?=some u->∀v∈u.kids,v∈(c8 ts).drop (j + 1)
 | [],j,u,hu,v,hv=>by unfold c8 at hu;cases hu
 | t::ts,j,u,hu,v,hv=>by
   unfold c8 at hu ⊢;rw[List.drop_append]
   by_cases c:j < t.pre.length
   . rw[ky c]at hu;exact lx _ (sI t j u hu v hv)
   . rw[kf QR]at hu;have:=wg ts (j - t.pre.length) u hu v hv;rw[show j - t.pre.length + 1=j + 1 - t.pre.length from by omega]at this;exact cf _ this
end
theorem FF {u:Tr}{v:V}(p:aS K H0 H (u.told g) v):∃T wd us,v=.ref T/\tupQ K H T=some (.str wd::.int (g u.a)::us):=by
 cases u with
 | leaf A l h rows=>
   obtain⟨T,Rw,us,rfl,hT,_⟩:=FE p;exact⟨T,_,_,rfl,hT⟩
 | inner A l h aX aU ks=>
   obtain⟨T,Pv,C,Y,us,rfl,hT,_⟩:=BW p;exact⟨T,_,_,rfl,hT⟩
theorem FG {cL cI:Addr}{H:Hp}{g:Addr->Int}{R:Tr->Addr->Prop}:∀(ks:List Tr),(∀v∈ks,∃o,R v o/\i9 K cL cI H g v o)->∃os,cy K cL cI H g ks os/\∀q∈ks.zip os,R q.1 q.2
 | [],_=>⟨[],by unfold cy;rfl,λq h=>by cases h⟩
 | k::ks,h=>by
   obtain⟨o,h1,h2⟩:=h k RR;obtain⟨os,h3,h4⟩:=FG ks λv hv=>h v (by simp[hv]);refine⟨o::os,by unfold cy;exact⟨o,os,rfl,h2,h3⟩,λq hq=>?_⟩;rw[List.zip_cons_cons]at hq;rcases List.mem_cons.mp hq with rfl | hq
   . exact h1
   . exact h4 q hq
inductive Pu (K:Frag)(cL cI:Addr)(vs:List V)(H:Hp)(Q:VK)(E9:XK):Prop
 | mk (t:Tr) (W us H0 a b c f lo hi) (g:Addr->Int) (_:vs=[.ref W]) (_:H W=some (.lst us)) (_:ao K H0 H (t.pre.map (Tr.told g)) us) (_:bB a b c t f lo hi) (_:(t.pre.map (g ∘ Tr.a)).Nodup) (_:t.pre.length<=1000) (_:∀o H',i9 K cL cI H' g t o->Ext K H H'->Q (.ref o) H')
include B in
theorem Ig (F:bQ K "top_of" "top_of" qK f fd)(mU:⋯ "room_made" 3 ["told","made"] (vZ K aM az)):(!0) 4 f fd ["roll"] (Pu K aM az):=by
 exists 0,["roll","made","told"]
 obtain⟨t,W,us,H0,a,b,c,f,lo,hi,g,rfl,hW,al,ok,nd,ln,q⟩:=h;refine aq (rest:=(aj qK).drop 2) (aE (aN (wL (fz hr.units lE (jm (iq (iq bg))) (λ_ _=>rfl))))) λr2 J2 e2=>?_;refine aq (rest:=(aj qK).drop 1) (ak (lT PassesOwn.never rfl (Vu rfl B.reversed (aa bg ah)) (gn 2 nk) (aE (ES hr.units cF (iq fC) (ec mU hr (aa fC (aa cF ah)))))) J2) λr1 J1 e1=>?_;refine⟨_,(ak (ss 1 nk Ks) J1),?_⟩
 ext
 intro m nm;have x0:=bX (.dK []) nm;have Tj:us.length=t.pre.length:=by rw[al.len,ab]
 rw[e1]
 ext
 refine⟨us,aR.of (x0.at hW),Bo (xs:=us) (λi σ G=>NF λ(v2:Option V) (aA:List (Key×V))=>V5 (uy σ [some (V.ref W),some (V.ref m),v2]) (G m=some (.dK aA)) (aA.length<=i) ((∀u∈t.pre.drop (us.length - i),∃o,dO aA (.inl (g u.a))=some (.ref o)/\i9 K aM az G g u o)) (Ext K H G)) ⟨_,[],rfl,af,ar _,λu hu=>?_,x0⟩ ?_ ?_ ?_⟩
 . rw[Tj,Nat.sub_zero,List.drop_length]at hu;cases hu
 . rintro i σ G _ ⟨v2,aA,rfl,_,_,_,xG⟩;exact aR.of (xG.at hW)
 . rintro i x σ G hi hx ⟨v2,aA,rfl,hm,lk,hk,xG⟩;obtain⟨j,hj⟩:∃j,j=us.length - 1 - i:=⟨_,rfl⟩
   have ej:us.length - i=j + 1:=QR
   have ej':us.length - (i + 1)=j:=QR
   rw[<- hj]at hx;rw[ej]at hk;obtain⟨d,hd,ha⟩:=al.get hx;rw[bb]at hd;obtain⟨u,hu,rfl⟩:=bj.mp hd;have hju:j < t.pre.length:=(bc.mp hu).1;obtain⟨f',jt,fF,oku⟩:=ok.pre u (ba hu);obtain⟨os,ho,hz⟩:=FG (R:=λv o=>dO aA (.inl (g v.a))=some (.ref o)) u.kids λv hv=>hk v (sI t j u hu v hv);obtain⟨T,wd,ws,rfl,hT⟩:=FF ha
   ext
   refine⟨u,H0,.ref T,m,aA,os,a,b,c,f',jt,fF,g,rfl,ha.ext xG,oku,hm,ho,hz,λo G1 hO x1=>⟨_,aQ ((xG.trans x1).tup hT),_,DY,_,AW.k (k:=.inl (g u.a)) (x1.at hm) (dt (show aA.length<=1000 by omega) RF),_,_,rfl,af,cn (jh _ _ _) QR,λu' Ci=>?_,?_⟩⟩
   . rw[ej',List.drop_eq_getElem_cons hju]at Ci;rw[a9 hju]at hu;rw[Option.some.inj hu]at Ci;rw[AU];rcases List.mem_cons.mp Ci with rfl | Ci
     . exact⟨o,by rw[Fh rfl],hO.sA (x1.at hm)⟩
     . obtain⟨o',h1,h2⟩:=hk u' Ci;refine⟨o',?_,(h2.ext x1).sA (x1.at hm)⟩;rw[Ee,h1];intro z;have hn:(t.pre.drop j).map (g ∘ Tr.a)=g u.a::(t.pre.drop (j + 1)).map (g ∘ Tr.a):=by
         rw[List.drop_eq_getElem_cons hju,List.map_cons,Option.some.inj hu];rfl
       have n2:((t.pre.drop j).map (g ∘ Tr.a)).Nodup:=by
         rw[xl];exact List.Sublist.nodup (List.drop_sublist _ _) nd
       rw[hn,List.nodup_cons]at n2;exact n2.1 (Sum.inl.inj z ▸ eP (f:=g ∘ Tr.a) Ci)
   . exact⟨λr o' e=>by rw[au (aH e nm.1)];exact(xG.trans x1).at e,λr xs e md=>by rw[au (λz=>by rw[z,nm.2]at md;cases md)];exact(xG.trans x1).mod r xs e md⟩
 . rintro σ G ⟨v2,aA,rfl,hm,lk,hk,xG⟩;rw[e2]
   ext
   have lp:0 < t.pre.length:=by rw[g7];exact Nat.zero_lt_succ _
   obtain⟨x0',hx0⟩:∃x,us[0]?=some x:=⟨_,a9 QR⟩
   obtain⟨d,hd,ha⟩:=al.get hx0;rw[g7]at hd;cases hd;obtain⟨T,wd,ws,rfl,hT⟩:=FF ha;obtain⟨o,h1,h2⟩:=hk t (by rw[Ap,List.drop_zero];exact BN t);exact⟨_,aI (xG.at hW),_,(eB (i:=0) hx0:_),T,rfl,_,aQ (xG.tup hT),_,DY,_,h1 ▸ tT.k (k:=.inl (g t.a)) hm,q o G h2 xG⟩
structure Tn (K:Frag)(c:Addr):Prop where
 cl:uo K c
 rule:bK K c "rule"
 kept:bK K c "kept"
 fresh:bK K c "fresh"
 top:bK K c "top"
 trail:bK K c "trail"
structure To (K:Frag)(c:Addr):Prop where
 cl:uo K c
 rule:bK K c "rule"
 last:bK K c "last"
 yY:bK K c "house"
 runs:bK K c "runs"
def Iw (v:V)(k:Addr)(n:Int)(o t:Addr):List (Str×V):=[(("rule":Str),v),(("kept":Str),.ref k),(("fresh":Str),.int n),(("top":Str),.ref o),(("trail":Str),.ref t)]
def uE (v:V)(n:Int)(h:Addr):List (Str×V):=[(("rule":Str),v),(("last":Str),.int n),(("house":Str),.ref h),(("runs":Str),.int 0)]
theorem Oj {v:V}{k o t:Addr}:bC "trail" (.ref t) (bC "top" (.ref o) (bC "fresh" (.int n) (bC "kept" (.ref k) (bC "rule" v []))))=Iw v k n o t:=by
 have k1:¬ (("rule":Str)="kept"):=Q1
 have k2:¬ (("rule":Str)="fresh"):=Q1
 have k3:¬ (("kept":Str)="fresh"):=Q1
 have k4:¬ (("rule":Str)="top"):=Q1
 have k5:¬ (("kept":Str)="top"):=Q1
 have k6:¬ (("fresh":Str)="top"):=Q1
 have k7:¬ (("rule":Str)="trail"):=Q1
 have k8:¬ (("kept":Str)="trail"):=Q1
 have k9:¬ (("fresh":Str)="trail"):=Q1
 have k0:¬ (("top":Str)="trail"):=Q1
 simp only[bC,k1,k2,k3,k4,k5,k6,k7,k8,k9,k0,FR,Iw]
theorem Ol {v:V}:bC "runs" (.int 0) (bC "house" (.ref h) (bC "last" (.int 0) (bC "rule" v [])))=uE v 0 h:=by
 have k1:¬ (("rule":Str)="last"):=Q1
 have k2:¬ (("rule":Str)="house"):=Q1
 have k3:¬ (("last":Str)="house"):=Q1
 have k4:¬ (("rule":Str)="runs"):=Q1
 have k5:¬ (("last":Str)="runs"):=Q1
 have k6:¬ (("house":Str)="runs"):=Q1
 simp only[bC,k1,k2,k3,k4,k5,k6,FR,uE]
theorem LP {v:V}{m:Int}:bC "last" (.int m) (uE v n h)=uE v m h:=by
 have k1:¬ (("rule":Str)="last"):=Q1
 simp only[bC,uE,k1,FR,Md]
theorem Ih {v:V}{h':Addr}:bC "house" (.ref h') (uE v n h)=uE v n h':=by
 have k2:¬ (("rule":Str)="house"):=Q1
 have k3:¬ (("last":Str)="house"):=Q1
 simp only[bC,uE,k2,k3,FR,Md]
inductive mV (K:Frag)(C:Addr)(vs:List V)(H:Hp)(Q:VK)(E9:XK):Prop
 | mk (x dx v k n o:_) (_:vs=[.ref x,v,.ref k,.int n,.ref o]) (_:H x=some (.ins C dx [])) (_:∀t H',H' x=some (.ins C dx (Iw v k n o t))->Kp K x H H'->Q .bO H')
include B in
theorem rj (F:bQ K "__init__" "House.__init__" jL f fd)(HC:Tn K br):(!0) 1 f fd ["self","rule","kept","fresh","top"] (mV K br):=by
 exists 0,["self","rule","kept","fresh","top"]
 obtain⟨x,dx,v,k,n,o,rfl,hx,q⟩:=h;refine⟨_,(ak (tX (ie cG lE)) (ak (tX (ie cG HN)) (ak (tX (ie cG Td)) (ak (tX (ie cG Wc)) (aE (tX (ie cG (jm (jx ah))))))))),?_⟩
 ext
 refine⟨_,_,_,hx,HC.cl,HC.rule,by decide,_,_,_,rfl,HC.cl,HC.kept,i8 (ar 0) RF,_,_,_,rfl,HC.cl,HC.fresh,i8 (fm (ar 0)) RF,_,_,_,rfl,HC.cl,HC.top,i8 (fm (fm (ar 0))) RF,λt nt=>?_⟩;simp only[iD]at nt ⊢;obtain⟨tx,nt⟩:=nF.1 nt;refine⟨_,_,_,by rw[au (Ne.symm tx),af],HC.cl,HC.trail,i8 (fm (fm (fm (ar 0)))) RF,?_⟩;rw[Oj];refine q t _ af ⟨λr o e n=>?_,λb ys e m=>?_⟩
 . rw[au n,au (aH e nt.1),au n];exact e
 . have bx:b≠x:=λz=>by rw[z,hx]at e;cases e
   have bt:b≠t:=λz=>by rw[z,nt.2]at m;cases m
   rw[au bx,au bt,au bx];exact e
theorem Kp.made {x:Addr}(nx:new K H x)(Pr:new K H dx)(ne:dx≠x)(kp:Kp K x (upd (upd H dx (.own x)) x (.ins C dx [])) H'):Ext K H H':=by
 have x1:=Ext.made (K:=K) (o:=.ins C dx []) (o':=.own x) nx Pr ne;exact⟨λq o e=>kp.keep q o (x1.same q o e) (aH e nx.1),λa xs e m=>kp.mod a xs (x1.mod a xs e m) m⟩
def wj (K:Frag):Sp:=λvs H Q _=>∃v,vs=[v]/\∀h H',Ext K H H'->Q (.ref h) H'
include B in
theorem Ai (F:bQ K "new_house" "new_house" tF f fd)(nX:Maker P w K mg base "House" 1 ["self","rule","kept","fresh","top"] [] br (mV K br))(sH:Maker P w K mg base "Leaf" 1 ["self","number","rows"] [] aM (pU K aM)):(!0) 3 f fd ["rule"] (wj K):=by
 exists 0,["rule"]
 obtain⟨v,rfl,q⟩:=h;refine⟨_,(aE (aN (u7 nX (rm hr) rfl (aa bg (aa (jx ah) (aa ei (aa (u7 sH (rm hr) rfl (aa ei (aa (jx ah) ah))) ah))))))),?_⟩
 ext
 intro k nk r nr lf dl nlf ndl nel;refine⟨lf,dl,_,_,rfl,af,rfl,?_⟩;rw[iD];have x2:=(bX (.lst []) nk).trans ((bX (.lst []) nr).trans (Ext.made (K:=K) (o:=.ins aM dl (Ie 0 r)) (o':=.own lf) nlf ndl nel));intro h dh nh ndh neh;exact⟨h,dh,v,k,1,lf,rfl,af,λt H3 zh kp=>⟨rfl,q h H3 (x2.trans (Kp.made nh ndh neh kp))⟩⟩
inductive tM (K:Frag)(C:Addr)(vs:List V)(H:Hp)(Q:VK)(E9:XK):Prop
 | mk (x dx R a b c pl:_) (_:vs=[.ref x,.ref R]) (_:H x=some (.ins C dx [])) (_:tupQ K H R=some [.int a,.int b,.int c,.str pl]) (_:DO a b c pl) (_:∀h H',H' x=some (.ins C dx (uE (.ref R) 0 h))->Kp K x H H'->Q .bO H')
include B in
theorem rq (F:bQ K "__init__" "Store.__init__" jM f fd)(SC:To K aZ)(iL:⋯ "is_rule" 3 ["thing"] (DK K))(mW:⋯ "new_house" 3 ["rule"] (wj K)):(!0) 4 f fd ["self","rule"] (tM K aZ):=by
 exists 0,["self","rule"]
 obtain⟨x,dx,R,a,b,c,pl,rfl,hx,hR,ro,q⟩:=h;refine⟨_,(ak (gJ (dZ (dG (ec iL hr (aa cF ah)))) (aE zx) b8) (ak (tX (ie cG lE)) (ak (tX (ie cG (jm ei))) (ak (tX (ie cG (jm (ec mW hr (aa cF ah))))) (aE (tX (ie cG (jm ei)))))))),?_⟩
 ext
 refine⟨R,[some a,some b,some c],pl,rfl,hR,_,rfl,aJ (by rw[Fy ro];decide) ⟨_,_,_,hx,SC.cl,SC.rule,by decide,_,_,_,rfl,SC.cl,SC.last,i8 (ar 0) RF,?_⟩⟩;rw[iD];refine⟨_,rfl,λh H2 x2=>?_⟩;refine⟨_,_,_,x2.same _ _ (af (a:=x)),SC.cl,SC.yY,i8 (fm (ar 0)) RF,_,_,_,rfl,SC.cl,SC.runs,i8 (fm (fm (ar 0))) RF,?_⟩;rw[iD,Ol];refine q h _ af ⟨λy o e n=>?_,λb ys e m=>?_⟩
 . rw[au n];exact x2.same _ _ (by rw[au n];exact e)
 . have bx:b≠x:=λz=>by rw[z,hx]at e;cases e
   rw[au bx];exact x2.mod b ys (by rw[au bx];exact e) m
inductive Ml (K:Frag)(cS cH cL cI:Addr)(H:Hp)(x:Addr)(a b c:Int)(pl:Str)(last:Int)(ms:List Int)(fr:Int)(g:Addr->Int)(t:Tr):Prop
 | mk (dx h dh R k o tr:Addr) (ins:H x=some (.ins cS dx (uE (.ref R) last h))) (hs:H h=some (.ins cH dh (Iw (.ref R) k fr o tr))) (rl:tupQ K H R=some [.int a,.int b,.int c,.str pl]) (kp:H k=some (.lst (ms.map V.int))) (top:i9 K cL cI H g t o):Ml K cS cH cL cI H x a b c pl last ms fr g t
theorem Ml.ext {cS cH cL cI x:Addr}{a c fr:Int}{t:Tr}(s:Ml K cS cH cL cI H x a b c pl last ms fr g t)(y:Ext K H H'):Ml K cS cH cL cI H' x a b c pl last ms fr g t:=by
 obtain⟨dx,h,dh,R,k,o,tr,h1,h2,h3,h4,h5⟩:=s;exact⟨dx,h,dh,R,k,o,tr,y.at h1,y.at h2,y.tup h3,y.at h4,h5.ext y⟩
theorem LQ {v:V}:(uE v n h).length < 1000:=by show(4:Nat) < 1000;decide
inductive Aj (K:Frag)(cS cH cL cI:Addr)(vs:List V)(H:Hp)(Q:VK)(E9:XK):Prop
 | mk (v H0 a b c pl f last ms fr g t:_) (_:vs=[v]) (_:aS K H0 H (kq a b c pl last ms fr g t) v) (_:Th a b c pl f last ms fr g t) (_:∀x H',Ml K cS cH cL cI H' x a b c pl last ms fr g t->Ext K H H'->Q (.ref x) H')
include B in
theorem xC (F:bQ K "store_from" "store_from" gb f fd)(SC:To K aZ)(Ak:Maker P w K mg base "Store" 4 ["self","rule"] [] aZ (tM K aZ))(nX:Maker P w K mg base "House" 1 ["self","rule","kept","fresh","top"] [] br (mV K br))(wk:⋯ "top_of" 4 ["roll"] (Pu K aM az)):(!0) 6 f fd ["image"] (Aj K aZ br aM az):=by
 exists 0,["image","rule","last","marks","fresh","rooms","store"]
 obtain⟨v,H0,a,b,c,pl,f,last,ms,fr,g,t,rfl,hv,wo,q⟩:=h;obtain⟨T,R,M,W,us,rfl,hT,hR,⟨nM,hM⟩,nW,hW,al⟩:=vW hv;refine aq (rest:=(aj gb).drop 3) (ak (tX (ie NY (jm (u7 nX (rm hr) rfl (aa cF (aa (dI b9 rfl B.list cE (aa gB ah)) (aa nH (aa (ec wk hr (aa tZ ah)) ah)))))))) (aE (aN Cm))) λr3 J3 e3=>?_;refine aq (rest:=(aj gb).drop 2) (ak (tX (ie NY HN)) J3) λr2 J2 e2=>?_;refine aq (rest:=(aj gb).drop 1) (ak (ss 6 nk (u7 Ak (rm hr) rfl (aa cF ah))) J2) λr1 J1 e1=>?_;refine⟨_,(ak (iS bg (lA (dD (n:=5) rfl (ay (gn 1 nk) (ay (gn 2 nk) (ay (gn 3 nk) (ay (gn 4 nk) (ay (gn 5 nk) dR)))))))) J1),?_⟩;simp_arith [hT];rw[e1]
 ext
 intro x dx nx Pr nex;have x0:=Ext.made (K:=K) (o:=.ins aZ dx []) (o':=.own x) nx Pr nex;refine⟨x,dx,R,a,b,c,pl,rfl,af,x0.tup hR,wo.rl,λh1 H1 hx1 kp1=>⟨rfl,?_⟩⟩;have x1:=Kp.made nx Pr nex kp1;rw[e2]
 ext
 refine⟨_,_,_,hx1,SC.cl,SC.last,LQ,?_⟩;rw[LP];have x2:Ext K H (upd H1 x (.ins aZ dx (uE (.ref R) last h1))):=⟨λr o e=>by rw[au (aH e nx.1)];exact x1.at e,λr xs e m=>by rw[au (λz=>by rw[z,nx.2]at m;cases m)];exact x1.mod r xs e m⟩
 have hx2:(upd H1 x (.ins aZ dx (uE (.ref R) last h1))) x=some (.ins aZ dx (uE (.ref R) last h1)):=af;generalize upd H1 x (.ins aZ dx (uE (.ref R) last h1))=G at x2 hx2 ⊢;rw[e3]
 ext
 refine⟨_,aI (x2.at hM),λk nk=>?_⟩;have x3:=x2.trans (bX (.lst (ms.map V.int)) nk);have nd:=wo.nd;rw[dj,dn]at nd;have ln:t.pre.length<=1000:=by
   have h1:=wo.ok.jw.1;rw[dj,ab]at h1;have h2:sz f<=1000:=by
     have:=wo.f3;have:f=0∨f=1∨f=2∨f=3:=QR
     rcases this with rfl | rfl | rfl | rfl <;> decide
   omega
 refine⟨t,W,us,H0,a,b,c,f,0,10 ^ 12,g,rfl,x3.at hW,al.ext x3,wo.ok,nd,ln,λo G1 hO xo h dh nh ndh neh=>⟨h,dh,.ref R,k,fr,o,rfl,af,λtr G2 hh OO=>⟨rfl,?_⟩⟩⟩;have y1:=(bX (.lst (ms.map V.int)) nk).trans (xo.trans (Kp.made nh ndh neh OO));have y2:=xo.trans (Kp.made nh ndh neh OO);refine⟨_,_,_,y1.at hx2,SC.cl,SC.yY,LQ,?_⟩;rw[Ih];have XS:=y1.at hx2;have nhx:h≠x:=λz=>by rw[z,XS]at hh;cases hh
 have x5:=x3.trans y2;refine q x _ ⟨dx,h,dh,R,k,o,tr,af,by rw[au nhx];exact hh,BJ XS LB (x5.tup hR),jR XS LB (y2.at af),(hO.ext (Kp.made nh ndh neh OO)).gF XS LB (λ_ _ _ z=>by cases z) (λ_ _ _ _ _ z=>?_)⟩ ⟨λr o e=>by rw[au (aH e nx.1)];exact x5.at e,λr xs e m=>by rw[au (λz=>by rw[z,nx.2]at m;cases m)];exact x5.mod r xs e m⟩;have e:=(HO.ins.inj z).2.2;unfold uE Af at e;exact absurd (show("rule":Str)="number" from congrArg Prod.fst (List.cons.inj e).1) Q1
include B in
theorem BX (F:bQ K "store_of" "store_of" vB f fd)(jC:⋯ "image_fault" 9 ["image"] (FD K))(kF:⋯ "store_from" 6 ["image"] (Aj K aZ br aM az)):(!0) 10 f fd ["image"] (Aj K aZ br aM az):=by
 exists 0,["image","fault"]
 obtain⟨v,H0,a,b,c,pl,f,last,ms,fr,g,t,rfl,hv,wo,q⟩:=h;refine⟨_,(ak (ss 1 nk (ec jC hr (aa bg ah))) (ak (gJ (cM (cg (om En) lE (jm iQ) (aF _))) (aE zx) b8) (aE (aN (ec kF hr (aa bg ah)))))),?_⟩
 ext
 refine⟨v,H0,a,b,c,pl,f,last,ms,fr,g,t,rfl,hv,wo,λH1 x1=>?_⟩
 ext
 exact⟨v,H0,a,b,c,pl,f,last,ms,fr,g,t,rfl,hv.ext x1,wo,λx H2 so x2=>q x H2 so (x1.trans x2)⟩
def bP.act:bP->Option Int->Option Int
 | .gone,_=>none
 | .is n,_=>some n
 | .plus n,o=>o.map (· + n)
def wm (t m:bP):Option Int->Option Int
 | none=>m.act none
 | some v=>t.act (some v)
inductive yZ (K:Frag)(vs:List V)(H:Hp)(Q:VK)(E9:XK):Prop
 | mk (r:_) (h:bP) (o:Option Int) (_:vs=[.ref r,on o]) (_:tupQ K H r=some h.v) (_:(o=none->∀n,h≠.plus n)) (_:Q (on (h.act o)) H)
theorem kH:eg ["half","value","word","number"] ["half","value"] (aL mD):=Wb
include B in
theorem Al (F:bQ K "half_acts" "half_acts" mD f fd):(!0) 1 f fd ["half","value"] (yZ K):=by
 refine F.Zx kH λeV A outer s H vs Q E hr hm h=>?_;obtain⟨r,h,o,rfl,o9,ho,q⟩:=h;refine⟨_,(ak (gJ (cM (cg (om (Jy hr.units)) cG (jm (iR rfl B.Wf B.EW)) (aF _))) (aE (aN iQ)) b8) (ak (iS bg (lA (dD (n:=2) rfl (ay (gn 2 kH.nd) (ay (gn 3 kH.nd) dR))))) (aE (aN (YD (cM (cg (om fq) HN (jm cJ) (aF _))) (cA (mA bw) cF gB) gB))))),?_⟩
 ext
 refine⟨h.hd,bP.EY o9,bP.gone.hd,bP.EY (h:=.gone) (hm.tup B.kG),h.shaped,bP.shaped .gone,?_⟩;rw[bP.Bw];cases h with
 | gone=>exact q
 | is n=>
   refine aJ (λz=>by cases z) ⟨_,o9,rfl,_,_,rfl,_,_,rfl,rfl,?_⟩
   ext
   exact aJ s3 q
 | plus n=>
   refine aJ (λz=>by cases z) ⟨_,o9,rfl,_,_,rfl,_,_,rfl,rfl,?_⟩
   ext
   cases o with
   | none=>exact absurd rfl (ho rfl n)
   | some v=>exact⟨v,rfl,q⟩
inductive sJ (K:Frag)(vs:List V)(H:Hp)(Q:VK)(E9:XK):Prop
 | mk (v:_) (t m:bP) (o:Option Int) (_:vs=[v,on o]) (_:vJ K H v t m) (_:(∀n,m≠.plus n)) (_:Q (on (wm t m o)) H)
include B in
theorem Om (F:bQ K "does" "does" Lf f fd)(mX:⋯ "half_acts" 1 ["half","value"] (yZ K)):(!0) 2 f fd ["action","value"] (sJ K):=by
 exists 0,["action","value","there","none"]
 obtain⟨v,t,m,o,rfl,⟨a,r,u,rfl,h1,h2,h3⟩,hm,q⟩:=h;refine⟨_,(ak (iS bg (lA (dD (n:=2) rfl (ay (gn 2 nk) (ay (gn 3 nk) dR))))) (aE (aN (ec mX hr (aa (YD (cM (cg (om iO) lE (jm iQ) (aF _))) gB fC) (aa cF ah)))))),?_⟩;simp_arith [h1];cases o with
 | none=>exact bq rfl ⟨u,m,none,rfl,h3,λ_=>hm,q⟩
 | some i=>exact aJ (λz=>by cases z) ⟨r,t,some i,rfl,h2,λz=>(by cases z),q⟩
def cut:Option Int->Int->Bool
 | none,_=>true
 | some m,n=>decide (n<=m)
def LR (at':Option Int)(v:Option Int)(p:jq):Option Int:=if cut at' p.1=true then p.2 else v
def valAt (ps:List jq)(at':Option Int):Option Int:=ps.foldl (LR at') none
inductive FH (K:Frag)(vs:List V)(H:Hp)(Q:VK)(E9:XK):Prop
 | mk (c us H0:_) (ps:List jq) (o:Option Int) (_:vs=[.ref c,on o]) (_:H c=some (.lst us)) (_:ao K H0 H (ps.map iH) us) (_:Q (on (valAt ps o)) H)
include B in
theorem BY (F:bQ K "value_of" "value_of" vo f fd):(!0) 1 f fd ["versions","at"] (FH K):=by
 exists 0,["versions","at","value","number","other"]
 obtain⟨c,us,H0,ps,o,rfl,hc,al,q⟩:=h;obtain⟨L,e1,e2,hL⟩:=ao.zip (d:=iH) al;refine⟨_,(ak (ss 2 nk iQ) (ak (lT PassesOwn.never rfl (j5 (bU cG)) (lA (dD (n:=2) rfl (ay (gn 3 nk) (ay (gn 4 nk) dR)))) (aE (gJ (tw (rR (cM (cg (om iO) lE (jm iQ) (aF _))) (je (cM (cg (om (mA fX)) Td lE (aF _)))))) (aE (ss 2 nk nH)) b8))) (aE (aN fC)))),?_⟩
 ext
 refine⟨⟨_,aR.of hc⟩,dW (xs:=us) (λi σ H'=>NF λ(v3 v4:Option V)=>O2 (uy σ [some (V.ref c),some (on o),some (on (valAt (ps.take i) o)),v3,v4]) (H'=H)) ⟨_,_,rfl,rfl⟩ ?_ ?_ ?_⟩
 . rintro i σ H' _ ⟨v3,v4,rfl,rfl⟩;exact aR.of hc
 . rintro i x σ H' hx ⟨v3,v4,rfl,rfl⟩;rw[e1,bb]at hx;obtain⟨p,hp,rfl⟩:=bj.mp hx;obtain⟨a,ea,ha⟩:=nJ (hL p (ba hp));rw[ea];have et:valAt (ps.take (i + 1)) o=LR o (valAt (ps.take i) o) p.2:=by
     unfold valAt;rw[e2,List.take_add_one,bb,hp,xt];rfl
   simp_arith [ha];rw[et];cases o with
   | none=>exact bq rfl ⟨_,_,rfl,trivial⟩
   | some m=>
     refine aJ (λz=>by cases z) ⟨m,rfl,ju (λc=>?_) (λc=>?_)⟩
     . rw[show LR (some m) (valAt (List.take i ps) (some m)) p.2=p.2.2 from Fh (Dx c)];exact⟨_,_,rfl,trivial⟩
     . rw[show LR (some m) (valAt (List.take i ps) (some m)) p.2=valAt (List.take i ps) (some m) from Ee (λz=>c (L9 z))];exact⟨_,_,rfl,trivial⟩
 . rintro σ H' ⟨v3,v4,rfl,rfl⟩
   ext
   rw[show us.length=ps.length from by rw[al.len,ab],dv];exact q
theorem jV {c:Addr}{L:List (V×α)}{p:α->Bool}{f:V×α->V}{tt:TT}{rest:St}(hk:H c=some (.lst (L.map (·.1))))(nD:new K H D)(hz:L.length<=1000)
   (tst:∀q∈L,∀H' (N:Bool->Hp->Prop),Ext K H H'->N (p q.2) H'->tt (some q.1::rest) H' N)
   (elt:∀q∈L,∀H' (N:VK),Ext K H H'->N (f q) H'->te (some q.1::rest) H' N)
   (fin:∀H',H' D=some (.lst ((L.filter λq=>p q.2).map f))->Ext K H H'->Q H'):b7 (sQ K c) (cQ 0) tt te D Q (v0::rest) (upd H D (.lst [])):=by
 refine iF (xs:=L.map (·.1)) (λi acc σ' H'=>∃(v0:Option V),σ'=v0::rest/\H' D=some (.lst acc)/\acc=((L.take i).filter λq=>p q.2).map f/\Kp K D (upd H D (.lst [])) H') ⟨_,rfl,af,rfl,Kp.refl⟩ ?_ ?_ ?_
 . rintro i acc σ' H' _ ⟨v0,rfl,hD,rfl,k⟩;exact aR.of ((k.ext nD).at hk)
 . rintro i x acc σ' H' hx ⟨v0,rfl,hD,rfl,k⟩;rw[bb]at hx;obtain⟨q,ek,rfl⟩:=bj.mp hx;have hlen:(((L.take i).filter λq=>p q.2).map f).length<=1000:=by
     rw[ab];refine cn (pf _ _) ?_;rw[fb];omega
   have et:(L.take (i + 1)).filter (λq=>p q.2)=(L.take i).filter (λq=>p q.2)++[q].filter (λq=>p q.2):=by rw[List.take_add_one,ek,List.filter_append];rfl
   unfold cQ;refine tst q (ba ek) H' _ (k.ext nD) ?_;cases e:p q.2 with
   | true=>
     rw[List.filter_cons_of_pos (p:=λq:V×α=>p q.2) e,List.filter_nil]at et;refine bq rfl (elt q (ba ek) H' _ (k.ext nD) ?_);refine⟨hD,dt hlen RF,_,rfl,af,by rw[et,bo];rfl,k.trans (Kp.upd hD)⟩
   | false=>
     rw[List.filter_cons_of_neg (p:=λq:V×α=>p q.2) (by rw[e];decide),List.filter_nil,List.append_nil]at et;exact aJ RF ⟨_,rfl,hD,by rw[et],k⟩
 . rintro acc σ' H' ⟨v0,rfl,hD,rfl,k⟩;rw[ab,dv]at hD;exact fin H' hD (k.ext nD)
inductive WQ (K:Frag)(vs:List V)(H:Hp)(Q:VK)(E9:XK):Prop
 | mk (c:_) (L:List (V×Nt)) (o:Option Int) (_:vs=[.ref c,on o]) (_:H c=some (.lst (L.map (·.1)))) (_:pQ K H L) (_:L.length<=100) (_:∀D H',H' D=some (.lst ((L.filter λq=>cut o q.2.n).map (·.1)))->Ext K H H'->Q (.ref D) H')
include B in
theorem LS (F:bQ K "up_to" "up_to" EV f fd):(!0) 1 f fd ["tray","at"] (WQ K):=by
 exists 0,["tray","at"]
 obtain⟨c,L,o,rfl,hc,nt,ll,q⟩:=h;refine⟨_,(aE (aN (qe (ck [ "note","at" ] [none,some 1]) rfl (j5 (bU cG)) (λ_ _ _ _=>(gn 0 nk)) (λ_ _ _ _=>(zC (tw (rR (cM (cg (om iO) lE (jm iQ) (aF _))) (je (cM (cg (om (mA fX)) (jm (Le K bg)) lE (aF _)))))))) (λ_ _ _ _=>bg)))),?_⟩
 ext
 refine⟨⟨_,aR.of hc⟩,λD nD=>jV (f:=(·.1)) (p:=λe=>cut o e.n) hc nD QR (λq hq H' N xx n=>?_) (λ_ _ _ _ _ h=>h) (λH' hD x1=>q D H' hD x1)⟩;obtain⟨a,u,ea,ha⟩:=(nt q hq).ext xx;rw[ea]
 ext
 cases o with
 | none=>exact bq rfl n
 | some m=>exact aJ (λz=>by cases z) ⟨_,aQ ha,_,xB,_,rfl,m,rfl,n⟩
inductive FI (K:Frag)(vs:List V)(H:Hp)(Q:VK)(E9:XK):Prop
 | mk (c:_) (L:List (V×Nt)) (k) (_:vs=[.ref c,.int k]) (_:H c=some (.lst (L.map (·.1)))) (_:pQ K H L) (_:L.length<=100) (_:∀D H',H' D=some (.lst ((L.filter λq=>q.2.has k).map (·.1)))->Ext K H H'->Q (.ref D) H')
include B in
theorem BZ (F:bQ K "touching" "touching" vp f fd)(iK:⋯ "has_key" 1 ["note","key"] (DT K)):(!0) 2 f fd ["tray","key"] (FI K):=by
 exists 0,["tray","key"]
 obtain⟨c,L,k,rfl,hc,nt,ll,q⟩:=h;refine⟨_,(aE (aN (qe (ck [ "note","key" ] [none,some 1]) rfl (j5 (bU cG)) (λ_ _ _ _=>(gn 0 nk)) (λ_ _ _ _=>(zC (dG (ec iK hr (aa bg (aa cF ah)))))) (λ_ _ _ _=>bg)))),?_⟩
 ext
 refine⟨⟨_,aR.of hc⟩,λD nD=>jV (f:=(·.1)) (p:=λe=>e.has k) hc nD QR (λq hq H' N xx n=>?_) (λ_ _ _ _ _ h=>h) (λH' hD x1=>q D H' hD x1)⟩
 ext
 exact⟨q.1,q.2,k,rfl,(nt q hq).ext xx,_,rfl,n⟩
def Pw (K:Frag)(H:Hp)(v:V)(e:Nt):Prop:=∃a u,v=.ref a/\tupQ K H a=some [.int e.n,.int e.lo,.int e.hi,u]/\vJ K H u e.t e.m
theorem Pw.ext {v:V}{e:Nt}(h:Pw K H v e)(x:Ext K H H'):Pw K H' v e:=by
 obtain⟨a,u,e,h,g⟩:=h;exact⟨a,u,e,x.tup h,g.ext x⟩
theorem Pw.a {v:V}{e:Nt}(h:Pw K H v e):Oc K H v e:=by
 obtain⟨a,u,e,h,_⟩:=h;exact⟨a,u,e,h⟩
theorem LU {v:V}{e:Nt}(h:aS K H0 H e.d v):Pw K H v e:=by
 obtain⟨a,b,u1,u2,rfl,h1,h2,h3,h4⟩:=Lk h;rcases zR h3 with ⟨z,_⟩ | ⟨x,r,z,rfl,hr⟩
 . cases z
 rcases zR h4 with ⟨z',_⟩ | ⟨y,r',z',rfl,o9⟩
 . cases z'
 cases z;cases z';exact⟨a,_,rfl,h1,b,r,r',rfl,h2,hr,o9⟩
def pV (aU:List Nt)(k:Int)(o v:Option Int):Option Int:=((aU.filter λe=>cut o e.n).filter λe=>e.has k).foldl (λv e=>wm e.t e.m v) v
inductive LV (K:Frag)(vs:List V)(H:Hp)(Q:VK)(E9:XK):Prop
 | mk (c:_) (L:List (V×Nt)) (k) (v o:Option Int) (_:vs=[.ref c,.int k,on v,on o]) (_:H c=some (.lst (L.map (·.1)))) (_:(∀q∈L,Pw K H q.1 q.2/\∀n,q.2.m≠.plus n)) (_:L.length<=100) (_:∀H',Ext K H H'->Q (on (pV (L.map (·.2)) k o v)) H')
include B in
theorem Oo (F:bQ K "seen" "seen" Lg f fd)(Am:⋯ "up_to" 1 ["tray","at"] (WQ K))(pW:⋯ "touching" 2 ["tray","key"] (FI K))(DZ:⋯ "does" 2 ["action","value"] (sJ K)):(!0) 3 f fd ["tray","key","value","at"] (LV K):=by
 exists 0,["tray","key","value","at","note"]
 obtain⟨c,L,k,v,o,rfl,hc,nt,ll,q⟩:=h;refine⟨_,(ak (lT PassesOwn.never rfl (j5 (bU (jm (ec pW hr (aa (ec Am hr (aa bg (aa gB ah))) (aa cF ah)))))) (gn 4 nk) (aE (ss 2 nk (ec DZ hr (aa (iq nH) (aa fC ah)))))) (aE (aN fC))),?_⟩
 ext
 refine⟨c,L,o,rfl,hc,λq hq=>(nt q hq).1.a,ll,λD1 H1 yS x1=>?_⟩;refine⟨D1,L.filter λq=>cut o q.2.n,k,rfl,yS,λq hq=>((nt q (qr.mp hq).1).1.ext x1).a,cn (pf _ _) ll,λD2 H2 mL x2=>?_⟩;obtain⟨M,hM⟩:∃M,M=(L.filter λq=>cut o q.2.n).filter λq=>q.2.has k:=⟨_,rfl⟩
 have eM:pV (L.map (·.2)) k o v=(M.map (·.2)).foldl (λv e=>wm e.t e.m v) v:=by
   unfold pV;rw[hM,rf,rf];rfl
 have q:=q _ (x1.trans x2);rw[eM]at q;have nM:∀r∈M,Pw K H2 r.1 r.2/\∀n,r.2.m≠.plus n:=λr hr=>by
   rw[hM]at hr;have:=nt r (qr.mp (qr.mp hr).1).1;exact⟨this.1.ext (x1.trans x2),this.2⟩
 rw[<- hM]at mL;refine⟨D2,rfl,⟨_,aR.of mL⟩,dW (xs:=M.map (·.1)) (λi σ H'=>Xn λ(v4:Option V)=>O2 (uy σ [some (V.ref c),some (V.int k),some (on (((M.take i).map (·.2)).foldl (λv e=>wm e.t e.m v) v)),some (on o),v4]) (H'=H2)) ⟨_,rfl,rfl⟩ ?_ ?_ ?_⟩
 . rintro i σ H' _ ⟨v4,rfl,rfl⟩;exact aR.of mL
 . rintro i x σ H' hx ⟨v4,rfl,rfl⟩;rw[bb]at hx;obtain⟨r,o9,rfl⟩:=bj.mp hx;obtain⟨⟨a,u,ea,ha,hu⟩,hm⟩:=nM r (ba o9);rw[ea]
   ext
   refine⟨_,aQ ha,u,rfl,u,r.2.t,r.2.m,_,rfl,hu,hm,some (V.ref a),?_,rfl⟩;rw[List.take_add_one,o9,ip,bo,xt];rfl
 . rintro σ H' ⟨v4,rfl,rfl⟩
   ext
   rw[ab,dv];exact q
theorem An {Y:Addr}:List.lookup ("pivots":Str) (Af n Pv C Y)=some (.ref Pv):=by
 have k1:(("pivots":Str)=="number")=false:=Q1
 simp only[Af,List.lookup,k1,Fn]
theorem D4 {Y:Addr}:List.lookup ("children":Str) (Af n Pv C Y)=some (.ref C):=by
 have k1:(("children":Str)=="number")=false:=Q1
 have k2:(("children":Str)=="pivots")=false:=Q1
 simp only[Af,List.lookup,k1,k2,Fn]
theorem B0 {Y:Addr}:List.lookup ("tray":Str) (Af n Pv C Y)=some (.ref Y):=by
 have k1:(("tray":Str)=="number")=false:=Q1
 have k2:(("tray":Str)=="pivots")=false:=Q1
 have k3:(("tray":Str)=="children")=false:=Q1
 simp only[Af,List.lookup,k1,k2,k3,Fn]
theorem FJ {Y:Addr}:List.lookup ("number":Str) (Af n Pv C Y)=some (.int n):=by simp only[Af,List.lookup,Fn]
theorem FL :List.lookup ("number":Str) (Ie n R)=some (.int n):=by simp only[Ie,List.lookup,Fn]
theorem B3 :List.lookup ("rows":Str) (Ie n R)=some (.ref R):=by
 have k1:(("rows":Str)=="number")=false:=Q1
 simp only[Ie,List.lookup,k1,Fn]
def place (aX:List Int)(k:Int):Nat:=(aX.filter λp=>decide (p<=k)).length
inductive FN (K:Frag)(cI:Addr)(vs:List V)(H:Hp)(Q:VK)(E9:XK):Prop
 | mk (o dx n Pv C Y k:_) (aX:List Int) (_:vs=[.ref o,.int k]) (_:H o=some (.ins cI dx (Af n Pv C Y))) (_:H Pv=some (.lst (aX.map V.int))) (_:aX.length<=1000) (_:∀H',Ext K H H'->Q (.int (place aX k)) H')
include B in
theorem wu (F:bQ K "child_place" "child_place" oV f fd):(!0) 1 f fd ["room","key"] (FN K az):=by
 exists 0,["room","key"]
 obtain⟨o,dx,n,Pv,C,Y,k,aX,rfl,ho,hP,lp,q⟩:=h;refine⟨_,(aE (aN (t6 B.len (qe (ck [ "pivot","key" ] [none,some 1]) rfl (j5 (bU (jm (mq (eK cG))))) (λ_ _ _ _=>(gn 0 nk)) (λ_ _ _ _=>(zC (cM (cg (om (mA fX)) cG lE (aF _))))) (λ_ _ _ _=>bg))))),?_⟩
 ext
 have hP':H Pv=some (.lst ((aX.map λp=>(V.int p,p)).map (·.1))):=by rw[dn];exact hP
 refine⟨_,_,_,ho,B.cI,B.nI.2.1,_,An,Pv,rfl,⟨_,aR.of hP⟩,λD nD=>jV (f:=(·.1)) (p:=λp=>decide (p<=k)) hP' nD (by rw[ab];exact lp) (λr hr H' N xx n=>?_) (λ_ _ _ _ _ h=>h) (λH' hD x1=>?_)⟩
 . obtain⟨p,_,rfl⟩:=gs.mp hr
   ext
   exact n
 . refine⟨_,aI hD,?_⟩;have:=q H' x1;unfold place at this;rw[ab,rf,ab];exact this
def sL (rows:List (Int×List jq))(k:Int):List jq:=match rows.find? λr=>decide (r.1=k) with
 | some r=>r.2
 | none=>[]
theorem FO {rows:List (Int×List jq)}{k:Int}{i:Nat}{r:Int×List jq}(h:rows[i]?=some r)(e:r.1=k)(n:∀r∈rows.take i,r.1≠k):sL rows k=r.2:=by
 obtain⟨hi,hr⟩:=bc.mp h;have e2:rows=rows.take i++r::rows.drop (i + 1):=by rw[<- hr,<- List.drop_eq_getElem_cons hi,uk]
 have e3:(rows.find? λr=>decide (r.1=k))=some r:=by
   rw[e2,List.find?_append,List.find?_eq_none.mpr (λx hx=>by simpa using n x hx),List.find?_cons_of_pos (by simpa using e)];rfl
 unfold sL;rw[e3]
theorem FP {rows:List (Int×List jq)}{k:Int}(n:∀r∈rows,r.1≠k):sL rows k=[]:=by
 unfold sL;rw[List.find?_eq_none.mpr (λx hx=>by simpa using n x hx)]
inductive B4 (K:Frag)(cL:Addr)(vs:List V)(H:Hp)(Q:VK)(E9:XK):Prop
 | mk (o dx n R us H0 k:_) (rows:List (Int×List jq)) (_:vs=[.ref o,.int k]) (_:H o=some (.ins cL dx (Ie n R))) (_:H R=some (.lst us)) (_:ao K H0 H (rows.map fk) us) (_:∀D ws H',H' D=some (.lst ws)->ao K H0 H' ((sL rows k).map iH) ws->Ext K H H'->Q (.ref D) H')
include B in
theorem wz (F:bQ K "versions_in" "versions_in" oX f fd):(!0) 1 f fd ["leaf","key"] (B4 K aM):=by
 exists 0,["leaf","key","other","versions"]
 obtain⟨o,dx,n,R,us,H0,k,rows,rfl,ho,hR,al,q⟩:=h;obtain⟨L,e1,e2,hL⟩:=ao.zip (d:=fk) al;refine⟨_,(ak (lT PassesOwn.never rfl (j5 (bU (jm (mq (eK cG))))) (lA (dD (n:=2) rfl (ay (gn 2 nk) (ay (gn 3 nk) dR)))) (aE (gJ (cM (cg (om fq) HN lE (aF _))) (aE (aN (dI b9 rfl B.list cE (aa gB ah)))) b8))) (aE (aN (jx ah)))),?_⟩
 ext
 refine⟨_,_,_,ho,B.cL,B.nL.2,_,B3,R,rfl,⟨_,aR.of hR⟩,dW (xs:=us) (λi σ H'=>NF λ(v2 v3:Option V)=>Al3 (uy σ [some (V.ref o),some (V.int k),v2,v3]) (∀r∈rows.take i,r.1≠k) (H'=H)) ⟨_,_,rfl,λr hr=>(by cases hr),rfl⟩ ?_ ?_ ?_⟩
 . rintro i σ H' _ ⟨v2,v3,rfl,_,rfl⟩;exact aR.of hR
 . rintro i x σ H' hx ⟨v2,v3,rfl,hk,rfl⟩;rw[e1,bb]at hx;obtain⟨r,o9,rfl⟩:=bj.mp hx;obtain⟨T0,B',ys,ea,h1,h2,h3⟩:=j8 (hL r (ba o9));have er:rows[i]?=some r.2:=by rw[e2,bb,o9];rfl
   rw[ea];simp_arith [h1];refine ju (λc=>⟨_,aI h2,λl nl=>?_⟩) (λc=>⟨_,_,rfl,λr' hr''=>?_,trivial⟩)
   . have x1:=bX (.lst ys) nl;exact q l ys _ af (by rw[FO er c hk];exact h3.ext x1) x1
   . rw[List.take_add_one,er]at hr'';rcases da.mp hr'' with h | h
     . exact hk r' h
     . rw[cw.mp h];exact c
 . rintro σ H' ⟨v2,v3,rfl,hk,rfl⟩
   ext
   intro l nl;rw[show us.length=rows.length from by rw[al.len,ab],dv]at hk;exact q l [] _ af (by rw[FP hk];exact ao.nil) (Ext.new nl)
inductive Path (k:Int):Tr->List Tr->Prop
 | leaf (a:Addr) (lo hi:Int) (rows:List (Int×List jq)):Path k (.leaf a lo hi rows) [.leaf a lo hi rows]
 | inner (a:Addr) (lo hi:Int) (aX:List Int) (aU:List Nt) (ks:List Tr) (u:Tr) (p:List Tr):ks[place aX k]?=some u->Path k u p->Path k (.inner a lo hi aX aU ks) (.inner a lo hi aX aU ks::p)
theorem cy.at {cL cI:Addr}{H:Hp}{g:Addr->Int}:∀{ts:List Tr}{os:List Addr}{i:Nat}{u:Tr},cy K cL cI H g ts os->ts[i]?=some u->∃o,os[i]?=some o/\i9 K cL cI H g u o
 | [],os,i,u,p,h=>by cases h
 | t::ts,os,i,u,p,h=>by
   unfold cy at p;obtain⟨o,r,rfl,h1,h2⟩:=p;cases i with
   | zero=>cases h;exact⟨o,rfl,h1⟩
   | succ i=>
     obtain⟨o',h3,h4⟩:=cy.at h2 (show ts[i]?=some u from h);exact⟨o',h3,h4⟩
theorem cy.snoc {cL cI:Addr}{H:Hp}{g:Addr->Int}{u:Tr}{o:Addr}(q:i9 K cL cI H g u o):∀{ts:List Tr}{os:List Addr},cy K cL cI H g ts os->cy K cL cI H g (ts++[u]) (os++[o])
 | [],os,p=>by
   unfold cy at p;rw[p];show cy K cL cI H g [u] [o];unfold cy;exact⟨o,[],rfl,q,by unfold cy;rfl⟩
 | t::ts,os,p=>by
   unfold cy at p;obtain⟨o',r,rfl,h1,h2⟩:=p;show cy K cL cI H g (t::(ts++[u])) (o'::(r++[o]));unfold cy;exact⟨o',_,rfl,h1,cy.snoc q h2⟩
inductive FQ (K:Frag)(cL cI:Addr)(vs:List V)(H:Hp)(Q:VK)(E9:XK):Prop
 | mk (t:Tr) (o k) (g:Addr->Int) (a b c f lo hi) (_:vs=[.ref o,.int k]) (_:i9 K cL cI H g t o) (_:bB a b c t f lo hi) (_:f<=3) (_:∀D os ts H',H' D=some (.lst (os.map V.ref))->Path k t ts->cy K cL cI H' g ts os->Ext K H H'->Q (.ref D) H')
include B in
theorem B5 (F:bQ K "rooms_to" "rooms_to" vt f fd)(jD:⋯ "child_place" 1 ["room","key"] (FN K az)):(!0) 2 f fd ["top","key"] (FQ K aM az):=by
 exists 0,["top","key","rooms","room"]
 obtain⟨t,o,k,g,a,b,c,f,lo,hi,rfl,ho,ok,f3,q⟩:=h;refine⟨_,(ak (ss 2 nk (jx (aa bg ah))) (ak (Jw PassesOwn.never (dZ (Ck (dG (jm (bW j4 rfl B.isinstance gI (aa (tV (uw jv) fC (Q5 pH ei) (λ_ _=>rfl)) (aa (iR rfl B.Wg B.EX) ah))))))) (ak (ss 3 nk (tV (uw jv) fC (Q5 pH ei) (λ_ _=>rfl))) (aE (qt (SN PySem.F.plainAttrs_list PySem.F.slot_list_append PySem.F.type_list_append fM fC (aa (tV (uw jv) (mq (eK Td)) (ec jD hr (aa gB (aa cF ah))) (λ_ _=>rfl)) ah)))))) (aE (aN fC)))),?_⟩
 ext
 intro D nD;have x0:=bX (.lst [V.ref o]) nD;obtain⟨W,hW⟩:∃W:Nat->St->Hp->Prop,W=λm σ G=>Zm λ(ts:List Tr) (os:List Addr) (u:Tr) (o':Addr) (v3:Option V) (jt fF:Int)=>Zp (uy σ [some (V.ref o),some (V.int k),some (V.ref D),v3]) (G D=some (.lst (os.map V.ref++[V.ref o']))) (cy K aM az H g ts os) (i9 K aM az H g u o') (bB a b c u m jt fF) ((∀p,Path k u p->Path k t (ts++p))) (os.length + m<=3) (Ext K H G):=⟨_,rfl⟩
 refine⟨W,⟨f,hW ▸ ⟨[],[],t,o,_,lo,hi,rfl,af,by unfold cy;rfl,ho,ok,λp hp=>hp,by simpa using f3,x0⟩⟩,λm σ G hw=>?_⟩;rw[hW]at hw;obtain⟨ts,os,u,o',v3,jt,fF,rfl,hD,Iv,hu,oku,hp,lm,xG⟩:=hw
 ext
 refine⟨_,aI hD,_,qV _ _,?_⟩;cases u with
 | leaf A' l h rows=>
   have Ci:=hu;unfold i9 at Ci;obtain⟨dx,R,us,H0,h1,h2,h3⟩:=Ci;refine⟨_,B.Zy (xG.at h1),true,B.kLL,aJ RF ?_⟩
   ext
   exact q D (os++[o']) (ts++[.leaf A' l h rows]) G (by rw[bo];exact hD) (hp _ (.leaf ..)) ((Iv.snoc hu).ext xG) xG
 | inner A' l h aX aU ks=>
   have Ci:=hu;unfold i9 at Ci;obtain⟨dx,Pv,C,Y,us,os',H0,h1,h2,h3,h4,h5,h6⟩:=Ci;unfold bB at oku;obtain⟨_,_,l3,_,g',rfl,_,tk⟩:=oku;have lk:=tk.len;refine⟨_,B.Zz (xG.at h1),false,B.kIL,bq RF ?_⟩;refine⟨W g',λσ' H' h=>⟨g',i4 _,h⟩,_,aI hD,_,qV _ _,.inl ⟨_,aR.of hD⟩,o',rfl,_,_,_,xG.at h1,B.cI,B.nI.2.2.1,_,D4,o',dx,g A',Pv,C,Y,k,aX,rfl,xG.at h1,xG.at h2,by omega,λG2 x2=>⟨C,rfl,_,rfl,_,aI ((xG.trans x2).at h3),?_⟩⟩;have lp:place aX k<=aX.length:=pf _ _;obtain⟨uc,huc⟩:∃u,ks[place aX k]?=some u:=⟨_,a9 QR⟩
   obtain⟨oc,hoc,hOc⟩:=h6.at huc;obtain⟨l',h',_,_,okc,_,_⟩:=sE tk _ uc huc;have eo:kZ (os'.map V.ref) (place aX k:Int)=some (.ref oc):=by
     have:=eB (xs:=os'.map V.ref) (i:=place aX k) (v:=.ref oc) (by rw[bb,hoc];rfl);rw[zr]at this;exact this
   have x3:=xG.trans x2;refine⟨_,eo,_,x2.at hD,by rw[ax,ab,ke];omega,?_⟩;rw[hW];refine⟨ts++[.inner A' l h aX aU ks],os++[o'],uc,oc,_,l',h',rfl,by rw[bo];exact af,Iv.snoc hu,hOc,okc,λp pp=>?_,by rw[ax];simp only[ke];omega,⟨λr o e=>by rw[au (aH e nD.1)];exact x3.at e,λr xs e md=>by rw[au (λz=>by rw[z,nD.2]at md;cases md)];exact x3.mod r xs e md⟩⟩;rw[km];exact hp _ (.inner _ _ _ _ _ _ _ _ huc pp)
def iB (k:Int)(o:Option Int):List Tr->Option Int
 | []=>none
 | .leaf _ _ _ rows::_=>valAt (sL rows k) o
 | .inner _ _ _ _ aU _::p=>pV aU k o (iB k o p)
theorem Path.one {k:Int}{t:Tr}{p:List Tr}(h:Path k t p):∀{p':List Tr},Path k t p'->p=p':=by
 induction h with
 | leaf a lo hi rows=>intro p' h;cases h;rfl
 | inner a lo hi aX aU ks u p e _ ih=>
   intro p' h;cases h with
   | inner _ _ _ _ _ _ u' p' e' h'=>
     rw[e]at e';cases e';rw[ih h']
theorem Path.ends {k:Int}{t:Tr}{p:List Tr}(h:Path k t p):∃ins a lo hi rows,p=ins++[.leaf a lo hi rows]:=by
 induction h with
 | leaf a lo hi rows=>exact⟨[],a,lo,hi,rows,rfl⟩
 | inner a lo hi aX aU ks u p e _ ih=>
   obtain⟨ins,a',jt,fF,rows,rfl⟩:=ih;exact⟨_::ins,a',jt,fF,rows,rfl⟩
theorem Path.ok {a c k:Int}{t:Tr}{p:List Tr}(h:Path k t p):∀{f:Nat}{lo hi:Int},bB a b c t f lo hi->∀u∈p,∃f' jt fF,bB a b c u f' jt fF:=by
 induction h with
 | leaf A l h rows=>intro f lo hi ok u hu;rw[cw.mp hu];exact⟨f,lo,hi,ok⟩
 | inner A l h aX aU ks u p e _ ih=>
   intro f lo hi ok v hv;rcases List.mem_cons.mp hv with rfl | hv
   . exact⟨f,lo,hi,ok⟩
   . unfold bB at ok;obtain⟨_,_,_,_,g',_,_,tk⟩:=ok;obtain⟨l',h',_,_,okc,_,_⟩:=sE tk _ u e;exact ih okc v hv
theorem Path.inn {k:Int}{t:Tr}{p:List Tr}(h:Path k t p):∀(i:Nat) (u:Tr),p[i]?=some u->i + 1 < p.length->∃a lo hi aX aU ks,u=.inner a lo hi aX aU ks:=by
 induction h with
 | leaf A l h rows=>intro i u hu hi;simp at hi
 | inner A l h aX aU ks u p e _ ih=>
   intro i v hv hi;cases i with
   | zero=>cases hv;exact⟨A,l,h,aX,aU,ks,rfl⟩
   | succ i=>exact ih i v hv (by simpa using hi)
theorem Path.jw {a c k:Int}{t:Tr}{p:List Tr}(h:Path k t p):∀{f:Nat}{lo hi:Int},bB a b c t f lo hi->p.length=f + 1:=by
 induction h with
 | leaf A l h rows=>intro f lo hi ok;unfold bB at ok;rw[ok.1];rfl
 | inner A l h aX aU ks u p e _ ih=>
   intro f lo hi ok;unfold bB at ok;obtain⟨_,_,_,_,g',rfl,_,tk⟩:=ok;obtain⟨l',h',_,_,okc,_,_⟩:=sE tk _ u e;rw[List.length_cons,ih okc]
inductive FT (K:Frag)(cL cI:Addr)(vs:List V)(H:Hp)(Q:VK)(E9:XK):Prop
 | mk (t:Tr) (o k) (g:Addr->Int) (a b c f lo hi) (at':Option Int) (_:vs=[.ref o,.int k,on at']) (_:i9 K cL cI H g t o) (_:bB a b c t f lo hi) (_:f<=3) (_:∀ts H',Path k t ts->Ext K H H'->Q (on (iB k at' ts)) H')
include B in
theorem xE (F:bQ K "told_value" "told_value" fZ f fd)(pX:⋯ "rooms_to" 2 ["top","key"] (FQ K aM az))(jE:⋯ "versions_in" 1 ["leaf","key"] (B4 K aM))(mY:qy P w K mg base "value_of" 1 ["versions","at"] ["at"] 1 1 (FH K))(Ao:qy P w K mg base "seen" 3 ["tray","key","value","at"] ["at"] 3 1 (LV K)):(!0) 4 f fd ["top","key","at"] (FT K aM az):=by
 exists 0,["top","key","at","inners","leaf","value","room"]
 obtain⟨t,o,k,g,a,b,c,f,lo,hi,at',rfl,ho,ok,f3,q⟩:=h;refine aq (rest:=(aj fZ).drop 3) (aE (aN tZ)) λr3 J3 e3=>?_;refine aq (rest:=(aj fZ).drop 2) (ak (lT PassesOwn.never rfl (Vu rfl B.reversed (aa gB ah)) (gn 6 nk) (aE (ss 5 nk (C5 Ao (rm hr) rfl (aa (mq (eK NY)) (aa cF (aa tZ ah))) (A9 fC Ka))))) J3) λr2 J2 e2=>?_;refine aq (rest:=(aj fZ).drop 1) (ak (ss 5 nk (C5 mY (rm hr) rfl (aa (ec jE hr (aa nH (aa cF ah))) ah) (A9 fC Ka))) J2) λr1 J1 e1=>?_;refine⟨_,(ak (iS (ec pX hr (aa bg (aa cF ah))) (Rt (n:=2) (i:=0) rfl (Ru (gn 3 nk) (ay (gn 4 nk) dR)))) J1),?_⟩
 ext
 refine⟨t,o,k,g,a,b,c,f,lo,hi,rfl,ho,ok,f3,λD0 os ts H1 hD0 pt hos x1=>?_⟩;obtain⟨ins,A',l',h',rows,ets⟩:=pt.ends;have lts:=pt.jw ok;have XU:=hos.len;have lin:ins.length + 1=ts.length:=by rw[ets,ax];rfl
 obtain⟨io,ol,rfl⟩:∃io ol,os=io++[ol]:=by
   rcases mn os with e | ⟨io,ol,e⟩
   . rw[e,List.length_nil]at XU;omega
   . exact⟨io,ol,by rw[e];simp⟩
 have lio:io.length=ins.length:=by
   rw[ax,ke]at XU;omega
 obtain⟨ol',eol,hol⟩:=hos.at (i:=ins.length) (u:=.leaf A' l' h' rows) (by rw[ets];simp);rw[<- lio,kf (ar _),Ap]at eol;cases eol;have et:List.take ((List.map V.ref (io++[ol])).length + 1 - 2) (List.drop 0 (List.map V.ref (io++[ol])))=io.map V.ref:=RR
 have ed:List.drop ((List.map V.ref (io++[ol])).length + 1 - 2) (List.drop 0 (List.map V.ref (io++[ol])))=[V.ref ol]:=RR
 refine⟨D0,rfl,_,aR.of hD0,by simp,λD nD=>⟨.ref D,[.ref ol],by rw[ed];rfl,.ref ol,[],rfl,rfl,?_⟩⟩;rw[et,e1];have xD:=bX (.lst (io.map V.ref)) nD;have hD:upd H1 D (.lst (io.map V.ref)) D=some (.lst (io.map V.ref)):=af;have LW:=hos.ext xD;have Sw:=hol.ext xD;have x2:=x1.trans xD;generalize upd H1 D (.lst (io.map V.ref))=G at hD LW Sw x2 ⊢;unfold i9 at Sw;obtain⟨dx,R,us,H0,h1,h2,h3⟩:=Sw
 ext
 refine⟨ol,dx,g A',R,us,H0,k,rows,rfl,h1,h2,h3,λDv ws G2 hDv aDv x3=>⟨Dv,ws,H0,sL rows k,at',rfl,hDv,aDv,?_⟩⟩;rw[e2]
 ext
 refine⟨_,aR.of (x3.at hD),Bo (xs:=io.map V.ref) (λi σ G'=>Xn λ(v6:Option V)=>O2 (uy σ [some (V.ref o),some (V.int k),some (on at'),some (V.ref D),some (V.ref ol),some (on (iB k at' (ts.drop (io.length - i)))),v6]) (Ext K G2 G')) ⟨none,?_,Ext.refl⟩ ?_ ?_ ?_⟩
 . rw[ets,Nat.sub_zero,lio,List.drop_left];rfl
 . rintro i σ G' _ ⟨v6,rfl,x4⟩;exact aR.of ((x3.trans x4).at hD)
 . rintro i x σ G' hi hx ⟨v6,rfl,x4⟩;rw[ab]at hi hx;obtain⟨j,hj⟩:∃j,j=io.length - 1 - i:=⟨_,rfl⟩
   rw[<- hj,bb]at hx;obtain⟨oj,hoj,rfl⟩:=bj.mp hx;have hjt:j < ts.length:=QR
   have XW:=a9 hjt;obtain⟨A2,l2,h2',aX,aU,ks,eu⟩:=pt.inn j _ XW QR;obtain⟨f',jt,fF,oku⟩:=pt.ok ok _ (ba XW);rw[eu]at oku XW;obtain⟨oj',eoj,XX⟩:=LW.at XW;rw[ky QR,hoj]at eoj;cases eoj;have XX:=XX.ext (x3.trans x4);unfold i9 at XX;obtain⟨dx',Pv,C,Y,us',os',H0',k1,k2,k3,k4,k5,_⟩:=XX;unfold bB at oku;obtain⟨_,_,_,_,g',rfl,ty,_⟩:=oku;obtain⟨L,z1,z2,hL⟩:=ao.zip (d:=Nt.d) k5;rw[z1]at k4;have ev:iB k at' (ts.drop (io.length - (i + 1)))=pV aU k at' (iB k at' (ts.drop (io.length - i))):=by
     rw[show io.length - (i + 1)=j from by omega,show io.length - i=j + 1 from by omega,List.drop_eq_getElem_cons hjt,eu];rfl
   have tl:=ty.l.1;rw[z2,ab]at tl
   ext
   refine⟨_,_,_,k1,B.cI,B.nI.2.2.2,_,B0,Y,L,k,_,at',rfl,k4,λr o9=>⟨LU (hL r o9),λn z=>?_⟩,by omega,λG5 x5=>⟨some (V.ref oj),?_,x4.trans x5⟩⟩
   . rcases(ty.e r.2 (by rw[z2];exact eP o9)).m with e | ⟨_,e,_⟩ <;> (rw[e]at z;cases z)
   . rw[ev,z2];rfl
 . rintro σ G' ⟨v6,rfl,x4⟩;rw[e3]
   ext
   rw[ab,Ap,List.drop_zero];exact q ts G' pt (x2.trans (x3.trans x4))
theorem B7 {v:V}{k o t:Addr}:List.lookup ("kept":Str) (Iw v k n o t)=some (.ref k):=by
 have k1:(("kept":Str)=="rule")=false:=Q1
 simp only[Iw,List.lookup,k1,Fn]
theorem FU {v:V}{k o t:Addr}:List.lookup ("top":Str) (Iw v k n o t)=some (.ref o):=by
 have k1:(("top":Str)=="rule")=false:=Q1
 have k2:(("top":Str)=="kept")=false:=Q1
 have k3:(("top":Str)=="fresh")=false:=Q1
 simp only[Iw,List.lookup,k1,k2,k3,Fn]
theorem n8 {v:V}:List.lookup ("house":Str) (uE v n h)=some (.ref h):=by
 have k1:(("house":Str)=="rule")=false:=Q1
 have k2:(("house":Str)=="last")=false:=Q1
 simp only[uE,List.lookup,k1,k2,Fn]
inductive FW (vs:List V)(H:Hp)(Q:VK)(E9:XK):Prop
 | mk (k:Int) (_:vs=[.int k]) (_:0<=k) (_:k < 10 ^ 12) (_:Q .bO H)
include B in
theorem Aq (F:bQ K "check_key" "check_key" sY f fd)(jO:⋯ "is_key" 3 ["thing"] DC):(!0) 4 f fd ["thing"] FW:=by
 exists 0,["thing"]
 obtain⟨k,rfl,h0,h1,q⟩:=h;refine⟨_,(aE (gJ (dZ (dG (ec jO hr (aa bg ah)))) (aE zx) b8)),?_⟩
 ext
 have e:wO 0 999999999999 (some k)=true:=by simp only[wO,cm,FC];omega
 exact⟨some k,rfl,_,rfl,aJ (by rw[e];decide) q⟩
theorem Oq {m:Int}(h:m∈ms):Cf (V.int m) (ms.map V.int)=true:=by
 unfold Cf;exact List.any_eq_true.mpr ⟨.int m,eP h,by simp[Gwi]⟩
inductive B8 (K:Frag)(cH:Addr)(vs:List V)(H:Hp)(Q:VK)(E9:XK):Prop
 | mk (h dh v k n o t:_) (at':Option Int) (ms:List Int) (_:vs=[.ref h,on at']) (_:H h=some (.ins cH dh (Iw v k n o t))) (_:H k=some (.lst (ms.map V.int))) (_:(∀m,at'=some m->m∈ms)) (_:Q .bO H)
include B in
theorem xJ (F:bQ K "check_mark" "check_mark" qL f fd)(HC:Tn K br)(aV:⋯ "is_number" 1 ["thing"] j7):(!0) 2 f fd ["house","at"] (B8 K br):=by
 exists 0,["house","at"]
 obtain⟨h,dh,v,k,n,o,t,at',ms,rfl,hh,hk,hm,q⟩:=h;refine⟨_,(aE (gJ (tw (Jv (cM (cg (om En) lE (jm iQ) (aF _))) (A4 (tw (rR (dZ (dG (ec aV hr (aa cF ah)))) (je (cM (cg (om ym) lE (jm (mq (eK cG))) SF)))))))) (aE zx) b8)),?_⟩
 ext
 cases at' with
 | none=>exact aJ RF q
 | some m=>
   have hi:Cf (V.int m) (ms.map V.int)=true:=Oq (hm m rfl);have fl:(ms.map V.int).all kU=true:=by rw[pd];exact eI.mpr λ_ _=>rfl
   exact bq rfl ⟨some m,rfl,true,rfl,aJ RF ⟨_,_,_,hh,HC.cl,HC.kept,_,B7,k,rfl,_,aI hk,rfl,fl,aJ (by rw[show Cf (on (some m)) (ms.map V.int)=true from hi];decide) q⟩⟩
inductive FY (K:Frag)(cH cL cI:Addr)(vs:List V)(H:Hp)(Q:VK)(E9:XK):Prop
 | mk (h dh v kp n o tr:_) (t:Tr) (g:Addr->Int) (a b c f lo hi) (k:Int) (at':Option Int) (ms:List Int) (_:vs=[.ref h,.int k,on at']) (_:H h=some (.ins cH dh (Iw v kp n o tr))) (_:H kp=some (.lst (ms.map V.int))) (_:i9 K cL cI H g t o) (_:bB a b c t f lo hi) (_:f<=3) (_:0<=k) (_:k < 10 ^ 12) (_:(∀m,at'=some m->m∈ms)) (_:∀ts H',Path k t ts->Ext K H H'->Q (on (iB k at' ts)) H')
include B in
theorem B9 (F:bQ K "read_key" "read_key" vz f fd)(HC:Tn K br)(mZ:⋯ "check_key" 4 ["thing"] FW)(kI:⋯ "check_mark" 2 ["house","at"] (B8 K br))(kJ:⋯ "told_value" 4 ["top","key","at"] (FT K aM az)):(!0) 5 f fd ["house","key","at"] (FY K br aM az):=by
 exists 0,["house","key","at"]
 obtain⟨h,dh,v,kp,n,o,tr,t,g,a,b,c,f,lo,hi,k,at',ms,rfl,hh,hk,ho,ok,f3,k0,k1,hm,q⟩:=h;refine⟨_,(ak (qt (ec mZ hr (aa cF ah))) (ak (qt (ec kI hr (aa bg (aa fC ah)))) (aE (aN (ec kJ hr (aa (mq (eK cG)) (aa cF (aa fC ah)))))))),?_⟩
 ext
 exact⟨k,rfl,k0,k1,h,dh,v,kp,n,o,tr,at',ms,rfl,hh,hk,hm,_,_,_,hh,HC.cl,HC.top,_,FU,t,o,k,g,a,b,c,f,lo,hi,at',rfl,ho,ok,f3,q⟩
inductive uF (K:Frag)(cS cH cL cI:Addr)(vs:List V)(H:Hp)(Q:VK)(E9:XK):Prop
 | mk (x a b c pl last fr:_) (g:Addr->Int) (t:Tr) (f lo hi) (k:Int) (at':Option Int) (ms:List Int) (_:vs=[.ref x,.int k,on at']) (_:Ml K cS cH cL cI H x a b c pl last ms fr g t) (_:bB a b c t f lo hi) (_:f<=3) (_:0<=k) (_:k < 10 ^ 12) (_:(∀m,at'=some m->m∈ms)) (_:∀ts H',Path k t ts->Ext K H H'->Q (on (iB k at' ts)) H')
include B in
theorem pq (F:bQ K "read" "Store.read" qM f fd)(SC:To K aZ)(jr:qy P w K mg base "read_key" 5 ["house","key","at"] ["at"] 2 1 (FY K br aM az)):(!0) 6 f fd ["self","key","at"] (uF K aZ br aM az):=by
 exists 0,["self","key","at"]
 obtain⟨x,a,b,c,pl,last,fr,g,t,f,lo,hi,k,at',ms,rfl,⟨dx,h,dh,R,kp,o,tr,s1,s2,s3,s4,s5'⟩,ok,f3,k0,k1,hm,q⟩:=h;refine⟨_,(aE (aN (C5 jr (rm hr) rfl (aa (mq (eK cG)) (aa cF ah)) (A9 fC Ka)))),?_⟩
 ext
 exact⟨_,_,_,s1,SC.cl,SC.yY,_,n8,h,dh,.ref R,kp,fr,o,tr,t,g,a,b,c,f,lo,hi,k,at',ms,rfl,s2,s4,s5',ok,f3,k0,k1,hm,q⟩
include B in
theorem Ar (F:bQ K "_law_acts" "_law_acts" mH f fd):(!0) 1 f fd ["_law_action_here","_law_value_here"] (sJ K):=by
 exists 0,["_law_action_here","_law_value_here","_law_half"]
 obtain⟨v,t,m,o,rfl,⟨a,r,u,rfl,h1,h2,h3⟩,hm,q⟩:=h;refine aq (rest:=(aj mH).drop 1) (ak (gJ (cM (cg (om fq) (jm (iq fC)) (jm cJ) (aF _))) (aE (aN iQ)) b8) (ak (gJ (cM (cg (om fq) (jm (iq fC)) (jm cJ) (aF _))) (aE (aN (cA (mA bw) cF (iq fC)))) b8) (aE (aN (iq fC))))) λr1 J1 e1=>?_;refine⟨_,(ak (ss 2 nk (tV (uw jv) bg (dI rO rfl B.int rP (aa (fE iO cF iQ (aF _)) ah)) (λ_ _=>rfl))) J1),?_⟩;simp_arith [aQ h1];have key:∀(z:Addr) (h:bP),tupQ K H z=some h.v->(o=none->∀n,h≠.plus n)->Q (on (h.act o)) H->r1 { nx:=λx H'=>Q V.bO H',rt:=Q } [some (V.ref a),some (on o),some (V.ref z)] H:=by
   intro z h hz hn q;rw[e1];simp_arith [aQ hz];cases h with
   | gone=>exact⟨_,xB,rfl,bq rfl q⟩
   | is n=>exact⟨_,xB,rfl,aJ (λz=>by revert z;decide +kernel) ⟨_,xB,rfl,aJ (λz=>s3 (V.str.inj z)) ⟨_,DY,q⟩⟩⟩
   | plus n=>
     cases o with
     | none=>exact absurd rfl (hn rfl n)
     | some v=>exact⟨_,xB,rfl,aJ (λz=>by revert z;decide +kernel) ⟨_,xB,rfl,bq rfl ⟨_,DY,v,rfl,n,rfl,q⟩⟩⟩
 cases o with
 | none=>exact⟨.ref u,(show kZ [V.ref r,V.ref u] (if V.bO=V.bO then 1 else 0)=_ from by rw[Fh rfl];rfl),key u m h3 (λ_=>hm) q⟩
 | some i=>exact⟨.ref r,by rw[Ee (λz=>by cases z)];rfl,key r t h2 (λz=>by cases z) q⟩
def Px (_:Frag):Sp:=λvs H Q _=>∃o:Option Int,vs=[on o,on o]/\Q (.bl true) H
include B in
theorem xK (F:bQ K "_law_alike" "_law_alike" qP f fd):(!0) 1 f fd ["_law_found","_law_due"] (Px K):=by
 exists 0,["_law_found","_law_due"]
 obtain⟨o,rfl,q⟩:=h;refine⟨_,(ak (gJ (cM (cg (om iO) lE (jm iQ) (aF _))) (aE (aN (fE iO bg iQ (aF _)))) b8) (aE (aN (Az (eE (jm (yM B.isinstance bg (jH rfl B.int rP))) (Az (eE (jm (Zg (Q6 (jm (yM B.isinstance bg (jH rfl B.bool EB)))))) (gA (fE fq bg cF (aF _)))))))))),?_⟩
 ext
 cases o with
 | none=>exact bq rfl q
 | some i=>exact aJ (λz=>by cases z) ⟨_,.inl (.int i),true,rfl,bq rfl ⟨_,.inl (.int i),false,rfl,bq rfl ⟨rfl,(Dx (rfl:on (some i)=on (some i))).symm ▸ q⟩⟩⟩
theorem D6 {ps:List jq}{o:Option Int}:valAt ps o=match (ps.filter λp=>cut o p.1).getLast? with
 | some p=>p.2
 | none=>none:=by
 unfold valAt;rw[show(ps.foldl (LR o) none)=(ps.filter λp=>cut o p.1).foldl (λ_ p=>p.2) none from by rw[List.foldl_filter];rfl];generalize(ps.filter λp=>cut o p.1)=l;rcases mn l with e | ⟨l',p,e⟩
 . rw[e];rfl
 . rw[e];simp
theorem Ii {aU:List Nt}{k:Int}{o v:Option Int}:pV aU k o v=aU.foldl (λv e=>if (e.has k&&cut o e.n)=true then wm e.t e.m v else v) v:=by
 unfold pV;rw[List.filter_filter,List.foldl_filter]
theorem Ij {rows:List (Int×List jq)}{k:Int}{i:Nat}{r:Int×List jq}(up:(rows.map (·.1)).Pairwise (· < ·))(h:rows[i]?=some r):(r.1≠k->sL (rows.take (i + 1)) k=sL (rows.take i) k)/\(r.1=k->sL (rows.take i) k=[]/\sL (rows.take (i + 1)) k=r.2):=by
 obtain⟨hi,hr⟩:=bc.mp h;have et:rows.take (i + 1)=rows.take i++[r]:=by rw[List.take_add_one,h];rfl
 refine⟨λn=>?_,λe=>?_⟩
 . unfold sL;rw[et,List.find?_append,List.find?_cons_of_neg (by simpa using n),List.find?_nil,Option.or_none]
 . have lt:∀x∈rows.take i,x.1≠k:=λx hx=>by
     have h1:=up.sublist ((tf (i + 1) rows).map _);rw[et,bo,nz]at h1;have:=h1.2.2 x.1 (eP hx) r.1 RR;omega
   exact⟨FP lt,FO (i:=i) (by rw[List.getElem?_take,Fh (i4 _)];exact h) e (by rw[List.take_take,Nat.min_eq_left (Nat.le_succ _)];exact lt)⟩
inductive sM (K:Frag)(n:Nat)(vs:List V)(H:Hp)(Q:VK)(E9:XK):Prop
 | mk (t:Tr) (H0 S) (k:Int) (o:Option Int) (a b c f lo hi) (_:vs=[.ref t.a,.int k,on o]) (_:gQ K H0 H S t) (_:bB a b c t f lo hi) (_:f < n) (_:∀ts H',Path k t ts->Ext K H H'->Q (on (iB k o ts)) H')
include B in
theorem wA {n:Nat}(F:bQ K "_law_view" "_law_view" cT f fd)(cW:⋯ "_law_acts" 1 ["_law_action_here","_law_value_here"] (sJ K))(g8:⋯ "_law_view" (1 + n) ["_law_room_here","_law_key","_law_when"] (sM K n)):(!0) (1 + n + 1) f fd ["_law_room_here","_law_key","_law_when"] (sM K (n + 1)):=by
 exists 0,["_law_room_here","_law_key","_law_when","_law_value_here","_law_other","_law_versions","_law_shown","_law_number_here","_law_low","_law_high","_law_action_here"]
 obtain⟨t,H0,S,k,o,a,b,c,f,lo,hi,rfl,la,ok,fn,q⟩:=h;refine aq (rest:=(aj cT).drop 4) (aE (aN gB)) λr5 J5 e5=>?_;refine aq (rest:=(aj cT).drop 3) (ak (lT PassesOwn.never rfl (j5 (bU (jm (wL (fz hr.units cG (jm cJ) (λ_ _=>rfl)))))) (lA (dD (n:=4) rfl (ay (gn 7 nk) (ay (gn 8 nk) (ay (gn 9 nk) (ay (gn 10 nk) dR)))))) (aE (gJ (tw (Jv (RK (C1 (om (mA fX)) (om (mA iN)) jv8 lE Zv)) (A4 (tw (rR (cM (cg (om iO) HN (jm iQ) (aF _))) (je (cM (cg (om (mA fX)) jv7 HN (aF _))))))))) (aE (ss 3 nk (qp cW (hr.mono QR) rfl (aa Dz (aa gB ah))))) b8))) J5) λr4 J4 e4=>?_;refine aq (rest:=(aj cT).drop 2) (ak (ss 3 nk (qp g8 (hr.mono QR) rfl (aa (tV (uw jv) (wL (fz hr.units cG (jm cJ) (λ_ _=>rfl))) (t6 B.len (qe (ck [ "_law_one","_law_key" ] [none,some 1]) rfl (j5 (bU (jm (wL (fz hr.units cG (jm cJ) (λ_ _=>rfl)))))) (λ_ _ _ _=>(gn 0 nk)) (λ_ _ _ _=>(zC (cM (cg (om (mA fX)) cG lE (aF _))))) (λ_ _ _ _=>bg))) (λ_ _=>rfl)) (aa cF (aa fC ah))))) J4) λr3 J3 e3=>?_;refine aq (rest:=(cR ((rZ ((aj cT).getD 1 (.Pass ⟨0,0,0,0⟩))).getD 0 (.Pass ⟨0,0,0,0⟩))).drop 1) (aE (gJ (tw (Jv (cM (cg (om fq) Wc lE (aF _))) (A4 (cM (cg (om (Kv (dt (gL _ 64) hr.units))) NY (jm (jx ah)) (aF _)))))) (aE (ss 3 nk (tV (uw jv) Cm (Q5 pH ei) (λ_ _=>rfl)))) b8)) λr2 J2 e2=>?_;refine aq (rest:=(rZ ((aj cT).getD 1 (.Pass ⟨0,0,0,0⟩))).drop 0) (ak (lT PassesOwn.never rfl (j5 (bU (jm (wL (fz hr.units cG (jm cJ) (λ_ _=>rfl)))))) (lA (dD (n:=2) rfl (ay (gn 4 nk) (ay (gn 5 nk) dR)))) (ak (YF (i:=6) nk rfl (Or.inl rfl) (ck [ "_law_one","_law_when" ] [none,some 2]) rfl (j5 (bU Zu)) (λ_ _ _ _=>(gn 0 nk)) (λ_ _ _ _=>(zC (tw (rR (cM (cg (om iO) lE (jm iQ) (aF _))) (je (cM (cg (om (mA fX)) (jm (Le K bg)) lE (aF _)))))))) (λ_ _ _ _=>(Le K bg))) J2)) (aE (aN gB))) λr1 J1 e1=>?_;refine⟨_,(ak (ss 3 nk iQ) (ak (gJ (cM (cg (om (KO (dt (gL _ 64) hr.units))) (jm (wL (fz hr.units cG (jm cJ) (λ_ _=>rfl)))) (jm (jx ah)) (aF _))) J1 b8) J3)),?_⟩
 ext
 obtain⟨aA,Z,k1,k2,k3,lk⟩:=vQ la;refine⟨_,jQ k1 k2,λE0' n0=>⟨Z,rfl,_,aR.of ((Ext.new n0).at k3),aR.of af,?_⟩⟩;have x0:=bX (.lst []) n0;have Ob:=la.fr (Fr.ext x0);generalize upd H E0' (.lst [])=G at *;cases t with
 | leaf a' jt fF rows=>
   unfold gQ at Ob;obtain⟨e,R,Z',us,h1,n1,h2,n3,h3,h4,n5,h5⟩:=Ob;unfold bB at ok;obtain⟨L,z1,z2,hL⟩:=ao.zip (d:=fk) h4;refine bq rfl ?_;rw[e1]
   ext
   refine⟨_,jQ h1 ((vN Wr).trans vP),R,rfl,⟨_,aR.of h3⟩,dW (xs:=us) (λi σ G'=>Sb λ(v4 v5 v6:Option V)=>O2 (uy σ [some (V.ref a'),some (V.int k),some (on o),some (on (valAt (sL (rows.take i) k) o)),v4,v5,v6,none,none,none,none]) (Ext K G G')) ⟨_,_,_,rfl,Ext.refl⟩ ?_ ?_ ?_⟩
   . rintro i σ G' _ ⟨v4,v5,v6,rfl,x1⟩;exact aR.of (x1.at h3)
   . rintro i x σ G' hx ⟨v4,v5,v6,rfl,x1⟩;rw[z1,bb]at hx;obtain⟨r,o9,rfl⟩:=bj.mp hx;have er:rows[i]?=some r.2:=by rw[z2,bb,o9];rfl
     have vr:=ok.2.2.2.2.v r.2 (ba er);have vs:=Ij (k:=k) ok.2.2.2.2.up er;obtain⟨T0,B',ys,ea,hT,hB,aB⟩:=j8 ((hL r (ba o9)).ext x1);obtain⟨L',y1,y2,hL'⟩:=ao.zip (d:=iH) aB;have lL:L'.length<=5:=by
       have:=vr.l.2;rw[y2,ab]at this;exact this
     rw[ea];simp_arith [hT];rw[y1]at hB;refine⟨⟨_,aR.of hB⟩,λD nD=>jV (f:=λq=>on q.2.2) (p:=λp=>cut o p.1) hB nD QR (λq' hq H' N xx nn=>?_) (λq' hq H' N xx nn=>?_) (λG2 hD x2=>?_)⟩
     . obtain⟨a2,ea2,Ir⟩:=nJ ((hL' q' hq).ext xx);rw[ea2]
       ext
       cases o with
       | none=>exact bq rfl nn
       | some m=>exact aJ (λz=>by cases z) ⟨_,aQ Ir,_,xB,_,rfl,m,rfl,nn⟩
     . obtain⟨a2,ea2,Ir⟩:=nJ ((hL' q' hq).ext xx);rw[ea2]
       ext
       exact⟨_,aQ Ir,_,DY,nn⟩
     . rw[e2]
       ext
       have x3:=x1.trans x2;refine ju (λc p np=>⟨_,aR.of ((Ext.new np).at hD),aR.of af,?_⟩) (λc=>⟨_,_,_,by rw[vs.1 c];rfl,x3⟩);have x4:=x3.trans (bX (.lst []) np);have hD4:=(bX (.lst []) np).at hD;rw[(vs.2 c).1,(vs.2 c).2,D6,y2,rf,List.getLast?_map];rcases mn (L'.filter λq=>cut o q.2.1)with em | ⟨M,q0,em⟩
       . rw[em];refine aJ RF ⟨some (V.int r.2.1),some (V.ref B'),some (V.ref D),?_,x4⟩;rw[show(λq:V×jq=>cut o q.2.1)=(λp:jq=>cut o p.1) ∘ (·.2) from rfl]at em;rw[em];rfl
       . rw[va]at em;rw[em]at hD4 ⊢;refine bq RR ⟨_,aI hD4,on q0.2.2,by rw[bo];exact qV _ _,some (V.int r.2.1),some (V.ref B'),some (V.ref D),?_,x4⟩;rw[show(λq:V×jq=>cut o q.2.1)=(λp:jq=>cut o p.1) ∘ (·.2) from rfl]at em;rw[em,List.getLast?_concat];rfl
   . rintro σ G' ⟨v4,v5,v6,rfl,x1⟩
     ext
     rw[show us.length=rows.length from by rw[h4.len,ab],dv];exact q _ G' (.leaf ..) (x0.trans x1)
 | inner a' jt fF aX aU ks=>
   unfold gQ at Ob;obtain⟨e,D,Y,Z',us,h1,n1,h2,⟨n3,h3⟩,⟨n4,h4,h5⟩,⟨n6,h6⟩,h7⟩:=Ob;unfold bB at ok;obtain⟨_,_,l3,_,g',rfl,ty,tk⟩:=ok;have Wu:=tk.len;refine aJ (by cases ks with | nil=>simp at Wu | cons x r=>simp[Tr.kids]) ?_;rw[e3]
   ext
   have hP':G D=some (.lst ((aX.map λp=>(V.int p,p)).map (·.1))):=by rw[dn];exact h3
   refine⟨_,jQ h1 ((vN Lx).trans ((vN Ff).trans ((vN N8).trans vP))),_,jQ h1 ((vN Pe).trans vP),D,rfl,⟨_,aR.of h3⟩,λD1 nD1=>jV (f:=(·.1)) (p:=λp=>decide (p<=k)) hP' nD1 (by rw[ab];omega) (λr o9 H' N xx nn=>?_) (λ_ _ _ _ _ h=>h) (λG1 yS x1=>?_)⟩
   . obtain⟨p,_,rfl⟩:=gs.mp o9
     ext
     exact nn
   have el:((((aX.map λp=>(V.int p,p)).filter λq=>decide (q.2<=k)).map (·.1)).length:Int)=(place aX k:Int):=by
     rw[ab,rf,ab];rfl
   have lp:place aX k<=aX.length:=pf _ _;obtain⟨uc,huc⟩:∃u,ks[place aX k]?=some u:=⟨_,a9 QR⟩
   obtain⟨l',h',_,_,okc,_,_⟩:=sE tk _ uc huc;have eo:kZ (ks.map λt=>V.ref t.a) (place aX k:Int)=some (.ref uc.a):=by
     have:=eB (xs:=ks.map λt=>V.ref t.a) (i:=place aX k) (v:=.ref uc.a) (by rw[bb,huc];rfl);rw[zr]at this;exact this
   refine⟨_,aI yS,Z',rfl,_,aI (x1.at h6),.ref uc.a,by rw[el];exact eo,uc,H0,S,k,o,a,b,c,g',l',h',rfl,(h7.mem (ba huc)).fr (Fr.ext x1),okc,by omega,λts G2 pt x2=>?_⟩;have pt':=Path.inner a' jt fF aX aU ks uc ts huc pt;obtain⟨L,z1,z2,hL⟩:=ao.zip (d:=Nt.d) h5;rw[e4]
   ext
   have jf:=x1.trans x2;refine⟨_,jQ (jf.at h1) ((vN Ws).trans ((vN Pf).trans vP)),Y,rfl,⟨_,aR.of (jf.at h4)⟩,dW (xs:=us) (λi σ G'=>Xo λ(v7 v8 v9 v10:Option V)=>O2 (uy σ [some (V.ref a'),some (V.int k),some (on o),some (on ((aU.take i).foldl (λv e=>if (e.has k&&cut o e.n)=true then wm e.t e.m v else v) (iB k o ts))),none,none,none,v7,v8,v9,v10]) (G'=G2)) ⟨_,_,_,_,rfl,rfl⟩ ?_ ?_ ?_⟩
   . rintro i σ G' _ ⟨v7,v8,v9,v10,rfl,rfl⟩;exact aR.of (jf.at h4)
   . rintro i x σ G' hx ⟨v7,v8,v9,v10,rfl,rfl⟩;rw[z1,bb]at hx;obtain⟨r,o9,rfl⟩:=bj.mp hx;have er:aU[i]?=some r.2:=by rw[z2,bb,o9];rfl
     obtain⟨T0,u0,ea,hT,hA⟩:=(LU (hL r (ba o9))).ext jf;have nm:∀n,r.2.m≠.plus n:=λn z=>by
       rcases(ty.e r.2 (ba er)).m with e | ⟨_,e,_⟩ <;> (rw[e]at z;cases z)
     have et:∀v,(aU.take (i + 1)).foldl (λv e=>if (e.has k&&cut o e.n)=true then wm e.t e.m v else v) v=if (r.2.has k&&cut o r.2.n)=true then wm r.2.t r.2.m ((aU.take i).foldl (λv e=>if (e.has k&&cut o e.n)=true then wm e.t e.m v else v) v) else (aU.take i).foldl (λv e=>if (e.has k&&cut o e.n)=true then wm e.t e.m v else v) v:=λv=>by
       rw[List.take_add_one,er,xt];rfl
     rw[ea];simp_arith [hT];rw[et];generalize(aU.take i).foldl (λv e=>if (e.has k&&cut o e.n)=true then wm e.t e.m v else v) (iB k o ts)=acc;unfold Nt.has;refine ju (λc1=>ju (λc2=>?_) (λc2=>?_)) (λc1=>?_)
     . rw[Dx c1,Dx c2];cases o with
       | none=>exact bq rfl ⟨u0,r.2.t,r.2.m,acc,rfl,hA,nm,_,_,_,_,rfl,rfl⟩
       | some m=>
         refine aJ (λz=>by cases z) ⟨m,rfl,ju (λc3=>⟨u0,r.2.t,r.2.m,acc,rfl,hA,nm,some (V.int r.2.n),some (V.int r.2.lo),some (V.int r.2.hi),some u0,?_,rfl⟩) (λc3=>⟨some (V.int r.2.n),some (V.int r.2.lo),some (V.int r.2.hi),some u0,?_,trivial⟩)⟩
         . rw[show cut (some m) r.2.n=true from Dx c3];rfl
         . rw[show cut (some m) r.2.n=false from Ha c3];rfl
     . rw[Ha c2,Bool.and_false];exact⟨_,_,_,_,rfl,trivial⟩
     . rw[Ha c1];exact⟨_,_,_,_,rfl,trivial⟩
   . rintro σ G' ⟨v7,v8,v9,v10,rfl,rfl⟩;rw[e5]
     ext
     rw[show us.length=aU.length from by rw[h5.len,ab],dv,<- Ii];exact q _ G' pt' (x0.trans jf)
theorem wB :(!0) 1 f fd ["_law_room_here","_law_key","_law_when"] (sM K 0):=
 ⟨λ_ _ _ _ h=>by cases h;omega,λ_ _ _ _ _ _ _ _ _ _ _ _ _ h=>by cases h;omega⟩
include B in
theorem pA {f:Addr}{fd:FuncData}(F:bQ K "_law_view" "_law_view" cT f fd)(cW:⋯ "_law_acts" 1 ["_law_action_here","_law_value_here"] (sJ K))(b:Binds K fd ["_law_room_here","_law_key","_law_when"] [])(kp:keepIn K (.ref f)=true)(m:mg "_law_view"=some (.ref f)):∀n:Nat,(!0) (1 + n) f fd ["_law_room_here","_law_key","_law_when"] (sM K n)
 | 0=>wB
 | n + 1=>wA B F cW ⟨f,fd,pA F cW b kp m n,b,kp,m⟩
include B in
theorem Au (F:bQ K "_law_view" "_law_view" cT f fd)(cW:⋯ "_law_acts" 1 ["_law_action_here","_law_value_here"] (sJ K))(b:Binds K fd ["_law_room_here","_law_key","_law_when"] [])(kp:keepIn K (.ref f)=true)(m:mg "_law_view"=some (.ref f)):(!0) 5 f fd ["_law_room_here","_law_key","_law_when"] (sM K 4):=pA B F cW b kp m 4
theorem cy.zip {cL cI:Addr}{H:Hp}{g:Addr->Int}:∀{ts:List Tr}{os:List Addr},cy K cL cI H g ts os->∀q∈ts.zip os,i9 K cL cI H g q.1 q.2
 | [],os,p,q,h=>by cases h
 | t::ts,os,p,q,h=>by
   unfold cy at p;obtain⟨o,r,rfl,h1,h2⟩:=p;rcases List.mem_cons.mp h with rfl | h
   . exact h1
   . exact cy.zip h2 q h
include B in
theorem Sx {u:Tr}{o:Addr}(p:i9 K aM az H g u o):∃C dx fs,H o=some (.ins C dx fs)/\uo K C/\bK K C "number"/\List.lookup ("number":Str) fs=some (.int (g u.a)):=by
 cases u with
 | leaf a l h rows=>
   unfold i9 at p;obtain⟨dx,R,us,H0,h1,_⟩:=p;exact⟨_,_,_,h1,B.cL,B.nL.1,FL⟩
 | inner a l h aX aU ks=>
   unfold i9 at p;obtain⟨dx,Pv,C,Y,us,os,H0,h1,_⟩:=p;exact⟨_,_,_,h1,B.cI,B.nI.1,FJ⟩
inductive FZ (K:Frag)(cL cI:Addr)(vs:List V)(H:Hp)(Q:VK)(E9:XK):Prop
 | mk (t:Tr) (o) (g:Addr->Int) (a b c f lo hi) (_:vs=[.ref o]) (_:i9 K cL cI H g t o) (_:bB a b c t f lo hi) (_:∀v H',aS K H H' (t.told g) v->Ext K H H'->Q v H')
include B in
theorem Av (F:bQ K "room_told" "room_told" jk f fd)(gH:⋯ "own_rows" 1 ["rows"] (LO K)):(!0) 2 f fd ["room"] (FZ K aM az):=by
 exists 0,["room","numbers"]
 obtain⟨t,o,g,a,b,c,f,lo,hi,rfl,ho,ok,q⟩:=h;refine aq (rest:=(aj jk).drop 2) (aE (aN (oR (aa cJ (aa (mq (eK cG)) (aa (dI b9 rfl B.list cE (aa (mq (eK cG)) ah)) (aa cF (aa (dI b9 rfl B.list cE (aa (mq (eK cG)) ah)) ah)))))))) λr2 J2 e2=>?_;refine aq (rest:=(aj jk).drop 1) (ak (YF (i:=1) nk rfl (Or.inl rfl) (ck [ "child" ] [none]) rfl (j5 (bU (jm (mq (eK cG))))) (λ_ _ _ _=>(gn 0 nk)) (λ_ _ _ _=>c6) (λ_ _ _ _=>(OT K bg))) J2) λr1 J1 e1=>?_;refine⟨_,(ak (gJ (Ck (dG (jm (bW j4 rfl B.isinstance gI (aa bg (aa (iR rfl B.Wg B.EX) ah)))))) (aE (aN (oR (aa cJ (aa (mq (eK cG)) (aa (ec gH hr (aa (mq (eK cG)) ah)) ah)))))) b8) J1),?_⟩
 ext
 cases t with
 | leaf A' l h rows=>
   unfold i9 at ho;obtain⟨dx,R,us,H0,h1,h2,h3⟩:=ho;unfold bB at ok;refine⟨_,B.Zy h1,true,B.kLL,bq rfl ⟨_,_,_,h1,B.cL,B.nL.1,_,FL,_,_,_,h1,B.cL,B.nL.2,_,B3,R,us,rows,H0,rfl,h2,h3,by have:=ok.2.2.2.2.l;omega,λD ws H1 nD hD aD x1 T nT=>?_⟩⟩;have xT:=bX (.tup [V.str (Str.ofString "leaf"),V.int (g A'),V.ref D]) nT;refine q _ _ ?_ (x1.trans xT);exact aS.tt.mpr ⟨T,_,rfl,aK,ao.cons (aS.ss.mpr rfl) (ao.cons (aS.ii.mpr rfl) (ao.cons (aS.ll.mpr ⟨D,ws,rfl,nD,xT.at hD,aD.ext xT⟩) ao.nil))⟩
 | inner A' l h aX aU ks=>
   unfold i9 at ho;obtain⟨dx,Pv,C,Y,us,os,H0,h1,h2,h3,h4,h5,h6⟩:=ho;have lk:=h6.len;have l4:ks.length<=4:=by
     unfold bB at ok;obtain⟨_,_,l3,_,g',_,_,ok⟩:=ok;have:=bz.len ok;omega
   refine⟨_,B.Zz h1,false,B.kIL,aJ RF ?_⟩;rw[e1]
   ext
   have ez:os.map V.ref=(ks.zip os).map λq=>V.ref q.2:=by
     rw[show(λq:Tr×Addr=>V.ref q.2)=V.ref ∘ Prod.snd from rfl,<- dn,pw (by rw[lk];exact ar _)]
   have en:(ks.zip os).map (λq=>V.int (g q.1.a))=(ks.map λt=>g t.a).map V.int:=by
     rw[show(λq:Tr×Addr=>V.int (g q.1.a))=(λt:Tr=>V.int (g t.a)) ∘ Prod.fst from rfl,<- dn,oe (by rw[lk];exact ar _),dn];rfl
   rw[ez]at h3;refine⟨_,_,_,h1,B.cI,B.nI.2.2.1,_,D4,C,rfl,⟨_,aR.of h3⟩,λD nD=>gf (L:=ks.zip os) (f:=λq=>V.ref q.2) (g:=λq=>V.int (g q.1.a)) (aR.of h3) nD (by rw[my];omega) (λr o9 H' Q' xx qq=>?_) (λH1 hD x1=>?_)⟩
   . obtain⟨C',dx',fs,n1,n2,n3,n4⟩:=Sx B ((h6.zip r o9).ext xx)
     ext
     exact⟨_,_,_,n1,n2,n3,_,n4,qq _ Ext.refl⟩
   rw[en]at hD;rw[e2]
   ext
   refine⟨_,_,_,x1.at h1,B.cI,B.nI.1,_,FJ,_,_,_,x1.at h1,B.cI,B.nI.2.1,_,An,Pv,rfl,_,aI (x1.at h2),λl1 m1=>?_⟩;have y1:=bX (.lst (aX.map V.int)) m1;have x2:=x1.trans y1;refine⟨_,_,_,x2.at h1,B.cI,B.nI.2.2.2,_,B0,Y,rfl,_,aI (x2.at h4),λl2 m2 T nT=>?_⟩;have y2:=bX (.lst us) m2;have y3:=bX (.tup [V.str (Str.ofString "inner"),V.int (g A'),V.ref l1,V.ref D,V.ref l2]) nT;refine q _ _ ?_ (x2.trans (y2.trans y3));refine aS.tt.mpr ⟨T,_,rfl,aK,ao.cons (aS.ss.mpr rfl) (ao.cons (aS.ii.mpr rfl) (ao.cons (aS.ll.mpr ⟨l1,_,rfl,bL x1 m1,(y2.trans y3).at af,ao.ko aX⟩) (ao.cons (aS.ll.mpr ⟨D,_,rfl,nD,(y1.trans (y2.trans y3)).at hD,?_⟩) (ao.cons (aS.ll.mpr ⟨l2,us,rfl,bL x2 m2,y3.at af,?_⟩) ao.nil))))⟩
   . rw[show(ks.map λt=>PyData.int (g t.a))=(ks.map λt=>g t.a).map PyData.int from by rw[dn];rfl];exact ao.ko _
   . exact(h5.flat (nV Fi _)).ext (x2.trans (y2.trans y3))
mutual
def eN:PyData->Bool
 | .none=>true
 | .int i=>decide (i.natAbs < 10 ^ 60)
 | .str s=>decide ((PyData.str s).shown.length<=20)&&(PyData.str s).showable
 | .list ds=>cz ds
 | .tuple ds=>cz ds
 | _=>false
def cz:List PyData->Bool
 | []=>true
 | d::ds=>eN d&&cz ds
end
theorem D9 (h:i.natAbs < 10 ^ 60):(PySem.Str.ofString (toString i)).length<=61:=by
 rw[PySem.ofString_length];exact PySem.int_text_length_le10 RF h
mutual
theorem F1:∀{d:PyData},eN d=true->d.shown.length + 4<=100 * wt d
 | .none,_=>by simp only[PyData.shown,wt];decide
 | .int i,h=>by
   simp only[eN,FC]at h;have:=D9 h;simp only[PyData.shown,wt];omega
 | .list ds,h=>by
   simp only[eN]at h;have:=pY h;have l:=Bm (PyData.shownAll ds);simp only[PyData.shown,wt];omega
 | .tuple ds,h=>by
   simp only[eN]at h;have:=pY h;have l:=zH (PyData.shownAll ds);simp only[PyData.shown,wt];omega
 | .bool _,h=>by simp[eN]at h
 | .str _,h=>by
   simp only[eN,cm,FC]at h;have:=h.1;simp only[wt];omega
 | .dict _,h=>by simp[eN]at h
theorem pY:∀{ds:List PyData},cz ds=true->piled (PyData.shownAll ds)<=100 * fY ds
 | [],_=>by simp[PyData.shownAll,piled,fY]
 | d::ds,h=>by
   simp only[cz,cm]at h;have h1:=F1 h.1;have h2:=pY h.2;simp only[PyData.shownAll,piled_cons,fY];omega
end
mutual
theorem sN:∀{d:PyData},eN d=true->d.showable=true/\d.hasDict=false
 | .none,_=>by simp only[PyData.showable,PyData.hasDict];exact⟨trivial,trivial⟩
 | .int i,h=>by
   simp only[eN,FC]at h;have:=Kq h;simp only[bare]at this;simp only[PyData.showable,PyData.hasDict];exact⟨this,trivial⟩
 | .list ds,h=>by
   simp only[eN]at h;simp only[PyData.showable,PyData.hasDict];exact kL h
 | .tuple ds,h=>by
   simp only[eN]at h;simp only[PyData.showable,PyData.hasDict];exact kL h
 | .bool _,h=>by simp[eN]at h
 | .str _,h=>by
   simp only[eN,cm]at h;exact⟨h.2,by simp only[PyData.hasDict]⟩
 | .dict _,h=>by simp[eN]at h
theorem kL:∀{ds:List PyData},cz ds=true->PyData.showableAll ds=true/\PyData.hasDictAll ds=false
 | [],_=>by simp[PyData.showableAll,PyData.hasDictAll]
 | d::ds,h=>by
   simp only[cz,cm]at h;have h1:=sN h.1;have h2:=kL h.2;simp only[PyData.showableAll,PyData.hasDictAll,h1.1,h1.2,h2.1,h2.2,Bool.and_self,Bool.or_self];exact⟨trivial,trivial⟩
end
theorem g9 {α:Type}{d:α->PyData}:∀{l:List α},(∀a∈l,eN (d a)=true)->cz (l.map d)=true
 | [],_=>by simp only[List.map_nil,cz]
 | a::l,h=>by
   simp only[List.map_cons,cz,cm];exact⟨h a RR,g9 λb hb=>h b (by simp[hb])⟩
theorem m7 {α:Type}{d:α->PyData}{c:Nat}:∀{l:List α},(∀a∈l,wt (d a)<=c)->fY (l.map d)<=l.length * c
 | [],_=>by simp[fY]
 | a::l,h=>by
   have h1:=h a RR;have h2:=m7 (l:=l) λb hb=>h b (by simp[hb]);simp only[List.map_cons,fY,List.length_cons,Nat.succ_mul];omega
theorem wC (h:i.natAbs < 10 ^ 60):eN (.int i)=true:=by simp only[eN];exact Dx h
theorem small (h0:0<=i)(h1:i<=10 ^ 13):i.natAbs < 10 ^ 60:=QR
theorem Ca {p:jq}(h0:0<=p.1)(h1:p.1 < 40)(h:ZC p.2):eN (iH p)=true/\wt (iH p)<=3:=by
 obtain⟨n,o⟩:=p;cases o with
 | none=>exact⟨by simp only[iH,EZ,eN,cz,lj];exact Dx (small h0 QR),by simp[iH,EZ,wt,fY]⟩
 | some i=>exact⟨by simp only[iH,EZ,eN,cz,lj,cm,FC];exact⟨small h0 QR,h i rfl⟩,by simp[iH,EZ,wt,fY]⟩
theorem LX {lo c:Int}{rows:List (Int×List jq)}(h:xm lo hi c rows)(h0:0<=lo)(h1:hi<=10 ^ 12):∀r∈rows,eN (fk r)=true/\wt (fk r)<=18:=by
 intro r hr;have hk:=h.k r hr;have hv:=h.v r hr;refine⟨?_,?_⟩
 . simp only[fk,eN,cz,lj,cm,FC];exact⟨small QR QR,g9 λp hp=>(Ca (hv.n p hp).1 (hv.n p hp).2.1 (hv.n p hp).2.2).1⟩
 . have:=m7 (d:=iH) (c:=3) (l:=r.2) λp hp=>(Ca (hv.n p hp).1 (hv.n p hp).2.1 (hv.n p hp).2.2).2;have:=hv.l.2;simp only[fk,wt,fY];omega
theorem za {h:bP}(s:h.sm):eN h.hd=true/\wt h.hd<=3:=by
 cases h with
 | plus n=>exact⟨by simp only[bP.hd,eN,cz,lj,cm];exact⟨by decide +kernel,Dx s⟩,by simp[bP.hd,wt,fY]⟩
 | is n=>exact⟨by simp only[bP.hd,eN,cz,lj,cm];exact⟨by decide +kernel,Dx s⟩,by simp[bP.hd,wt,fY]⟩
 | gone=>exact⟨by decide +kernel,by simp[bP.hd,wt,fY]⟩
theorem Ik {lo f:Int}{e:Nt}(h:Sk lo hi f e)(hf:0<=f/\f<=3)(h0:0<=lo)(h1:hi<=10 ^ 12):eN e.d=true/\wt e.d<=11:=by
 have s:=h.s;have n:=h.n;have ms:e.m.sm:=by
   rcases h.m with z | ⟨i,z,g,_⟩ <;> rw[z]
   . exact trivial
   . exact g
 have a:=za h.t;have b:=za ms;refine⟨?_,?_⟩
 . simp only[Nt.d,Nt.rn,RN.d,EZ,HS,eN,cz,lj,cm,FC];exact⟨small QR QR,small QR QR,small QR QR,a.1,b.1⟩
 . simp only[Nt.d,Nt.rn,RN.d,EZ,HS,wt,fY];omega
theorem Il {a c lo:Int}{u:Tr}{f:Nat}(ok:bB a b c u f lo hi)(hf:f<=3)(h0:0<=lo)(h1:hi<=10 ^ 12)(hg:∀v∈u::u.kids,0<=g v.a/\g v.a<=10 ^ 12):eN (u.told g)=true/\wt (u.told g)<=500:=by
 have gu:=hg u RR;cases u with
 | leaf A l h rows=>
   unfold bB at ok;have nr:=LX ok.2.2.2.2 h0 h1;have w1:=m7 (d:=fk) (c:=18) λr hr=>(nr r hr).2;have l1:=ok.2.2.2.2.l.1;refine⟨?_,?_⟩
   . simp only[Tr.told,eN,cz,lj,cm];exact⟨by decide +kernel,Dx (small gu.1 (by have:=gu.2;show g A<=_;exact Int.le_trans this RF)),g9 λr hr=>(nr r hr).1⟩
   . simp only[Tr.told,wt,fY];omega
 | inner A l h aX aU ks=>
   have gk:∀v∈ks,0<=g v.a/\g v.a<=10 ^ 12:=λv hv=>hg v (cx _ hv);unfold bB at ok;obtain⟨_,_,l3,_,g',fe,ty,tk⟩:=ok;have lk:=tk.len;have np:∀p∈aX,eN (PyData.int p)=true:=λp hp=>by
     have up:=DX tk;rw[List.pairwise_cons]at up;have u1:=up.1 p (lx _ hp);have u2:=(nz.mp up.2).2.2 p hp hi RR;exact wC (small QR QR)
   have nn:=λe he=>Ik (ty.e e he) ⟨by omega,by omega⟩ h0 h1;have w1:=m7 (d:=PyData.int) (c:=1) (l:=aX) λp _=>by simp[wt]
   have w2:=m7 (d:=λt:Tr=>PyData.int (g t.a)) (c:=1) (l:=ks) λp _=>by simp[wt]
   have w3:=m7 (d:=Nt.d) (c:=11) λe he=>(nn e he).2;have l1:=ty.l.1;refine⟨?_,?_⟩
   . simp only[Tr.told,eN,cz,lj,cm];exact⟨by decide +kernel,Dx (small gu.1 (Int.le_trans gu.2 RF)),g9 np,g9 λv hv=>wC (small (gk v hv).1 (Int.le_trans (gk v hv).2 RF)),g9 λe he=>(nn e he).1⟩
   . simp only[Tr.told,wt,fY];omega
mutual
theorem bB.Im {a b c:Int}:∀{t:Tr}{f:Nat}{lo hi:Int},bB a b c t f lo hi->∀u∈t.pre,∃f' jt fF,bB a b c u f' jt fF/\f'<=f/\lo<=jt/\fF<=hi
 | .leaf a' l h rows,f,lo,hi,ok,u,hu=>by
   unfold Tr.pre at hu;rw[cw.mp hu];exact⟨f,lo,hi,ok,ar _,kl _,kl _⟩
 | .inner a' l h aX aU ks,f,lo,hi,ok,u,hu=>by
   unfold Tr.pre at hu;rcases List.mem_cons.mp hu with rfl | hu
   . exact⟨f,lo,hi,ok,ar _,kl _,kl _⟩
   . unfold bB at ok;obtain⟨_,_,l3,_,g,rfl,_,ok⟩:=ok;obtain⟨f',jt,fF,h1,h2,h3,h4⟩:=bz.Im ok u hu;exact⟨f',jt,fF,h1,by omega,h3,h4⟩
theorem bz.Im {a b c:Int}:∀{ts:List Tr}{g:Nat}{lo:Int}{aX:List Int}{hi:Int},bz a b c ts g lo aX hi->∀u∈c8 ts,∃f' jt fF,bB a b c u f' jt fF/\f'<=g/\lo<=jt/\fF<=hi
 | [],g,lo,aX,hi,ok,u,hu=>by unfold bz at ok;exact ok.elim
 | t::ts,g,lo,[],hi,ok,u,hu=>by
   unfold bz at ok;rw[ok.2]at hu;unfold c8 at hu;unfold c8 at hu;rw[List.append_nil]at hu;exact bB.Im ok.1 u hu
 | t::ts,g,lo,q::qs,hi,ok,u,hu=>by
   unfold bz at ok;unfold c8 at hu;have h1:=ok.1.lt;have h2:=ok.2.lt;rcases da.mp hu with hu | hu
   . obtain⟨f',jt,fF,h3,h4,h5,h6⟩:=bB.Im ok.1 u hu;exact⟨f',jt,fF,h3,h4,h5,by omega⟩
   . obtain⟨f',jt,fF,h3,h4,h5,h6⟩:=bz.Im ok.2 u hu;exact⟨f',jt,fF,h3,h4,by omega,h6⟩
end
theorem m8 {α:Type}{d:α->PyData}{c:Nat}:∀{l:List α},(∀a∈l,(d a).depth<=c)->PyData.depthAll (l.map d)<=c
 | [],_=>by simp[PyData.depthAll]
 | a::l,h=>by
   have h1:=h a RR;have h2:=m8 (l:=l) λb hb=>h b (by simp[hb]);simp only[List.map_cons,PyData.depthAll];omega
theorem Sy (p:jq):(iH p).depth<=2:=by
 obtain⟨n,o⟩:=p;cases o <;> simp only[iH,EZ,PyData.depth,PyData.depthAll] <;> decide
theorem Sz (r:Int×List jq):(fk r).depth<=5:=by
 have:=m8 (d:=iH) (c:=2) (l:=r.2) λp _=>Sy p;simp only[fk,PyData.depth,PyData.depthAll];omega
theorem Ot (e:Nt):e.d.depth<=5:=by
 obtain⟨n,lo,hi,t,m⟩:=e;cases t <;> cases m <;> simp only[Nt.d,Nt.rn,RN.d,EZ,HS,bP.hd,PyData.depth,PyData.depthAll] <;> decide
theorem Ou (g:Addr->Int)(u:Tr):(u.told g).depth<=8:=by
 cases u with
 | leaf A l h rows=>
   have:=m8 (d:=fk) (c:=5) (l:=rows) λr _=>Sz r;simp only[Tr.told,PyData.depth,PyData.depthAll];omega
 | inner A l h aX aU ks=>
   have h1:=m8 (d:=PyData.int) (c:=1) (l:=aX) λ_ _=>by simp[PyData.depth]
   have h2:=m8 (d:=λt:Tr=>PyData.int (g t.a)) (c:=1) (l:=ks) λ_ _=>by simp[PyData.depth]
   have h3:=m8 (d:=Nt.d) (c:=5) (l:=aU) λe _=>Ot e;simp only[Tr.told,PyData.depth,PyData.depthAll];exact Nat.succ_le_succ (oa.mpr ⟨by decide,oa.mpr ⟨by decide,oa.mpr ⟨Nat.succ_le_succ (cn h1 RF),oa.mpr ⟨Nat.succ_le_succ (cn h2 RF),oa.mpr ⟨Nat.succ_le_succ (cn h3 RF),by decide⟩⟩⟩⟩⟩)
theorem LY {a c:Int}{f:Nat}{fr:Int}{t:Tr}(wo:Th a b c pl f last ms fr g t):(kq a b c pl last ms fr g t).showable=true/\(kq a b c pl last ms fr g t).hasDict=false/\(kq a b c pl last ms fr g t).depth<=60/\(kq a b c pl last ms fr g t).shown.length<=sizeLine:=by
 have f3:=wo.f3;have la:=wo.la;have ff:=wo.fr;have ra:=wo.rl.a;have rb:=wo.rl.b;have rc:=wo.rl.c;have LD:t.pre.length<=85:=by
   have h1:=wo.ok.jw.1;rw[dj,ab]at h1;have h2:sz f<=85:=by
     have:f=0∨f=1∨f=2∨f=3:=QR
     rcases this with rfl | rfl | rfl | rfl <;> decide
   omega
 have gr:∀v∈t.pre,0<=g v.a/\g v.a<=10 ^ 12:=λv hv=>by
   have:=wo.gr v.a (by rw[dj];exact eP hv);omega
 have nt:∀u∈t.pre,eN (u.told g)=true/\wt (u.told g)<=500:=λu hu=>by
   obtain⟨f',jt,fF,h1,h2,h3,h4⟩:=wo.ok.Im u hu;obtain⟨j,hj⟩:=mx hu;refine Il h1 QR h3 h4 λv hv=>?_;rcases List.mem_cons.mp hv with rfl | hv
   . exact gr _ hu
   . exact gr v (List.mem_of_mem_drop (sI t j u hj v hv))
 have w1:=m7 (d:=PyData.int) (c:=1) (l:=ms) λ_ _=>by simp[wt]
 have w2:=m7 (d:=Tr.told g) (c:=500) λu hu=>(nt u hu).2;have ml:=wo.ml;have np:eN (.str pl)=true:=by rcases wo.rl.p with e | e <;> rw[e] <;> decide +kernel
 have n:eN (kq a b c pl last ms fr g t)=true:=by
   simp only[kq,eN,cz,lj,cm,FC]at np ⊢;exact⟨⟨small QR QR,small QR QR,small QR QR,np⟩,small QR QR,g9 λm hm=>wC (small (by have:=wo.mr m hm;omega) (by have:=wo.mr m hm;omega)),small QR QR,g9 λu hu=>(nt u hu).1⟩
 have w:wt (kq a b c pl last ms fr g t)<=50000:=by
   simp only[kq,wt,fY];omega
 have d1:=m8 (d:=PyData.int) (c:=1) (l:=ms) λ_ _=>by simp[PyData.depth]
 have d2:=m8 (d:=Tr.told g) (c:=8) (l:=t.pre) λu _=>Ou g u;have l:=F1 n;refine⟨(sN n).1,(sN n).2,?_,by rw[NA];omega⟩;simp only[kq,PyData.depth,PyData.depthAll];exact Nat.succ_le_succ (oa.mpr ⟨by decide,oa.mpr ⟨by decide,oa.mpr ⟨Nat.succ_le_succ (cn d1 RF),oa.mpr ⟨by decide,oa.mpr ⟨Nat.succ_le_succ (cn d2 RF),by decide⟩⟩⟩⟩⟩)
theorem LZ {v:V}:List.lookup ("last":Str) (uE v n h)=some (.int n):=by
 have k1:(("last":Str)=="rule")=false:=Q1
 simp only[uE,List.lookup,k1,Fn]
theorem L0 {v:V}:List.lookup ("rule":Str) (uE v n h)=some v:=by simp only[uE,List.lookup,Fn]
theorem Io {v:V}{k o t:Addr}:List.lookup ("fresh":Str) (Iw v k n o t)=some (.int n):=by
 have k1:(("fresh":Str)=="rule")=false:=Q1
 have k2:(("fresh":Str)=="kept")=false:=Q1
 simp only[Iw,List.lookup,k1,k2,Fn]
theorem Ea {v:V}(k1:(m=="rule")=false)(k2:(m=="last")=false)(k3:(m=="house")=false)(k4:(m=="runs")=false):List.lookup m (uE v n h)=none:=by
 simp only[uE,List.lookup,k1,k2,k3,k4]
inductive F2 (K:Frag)(cS cH cL cI:Addr)(vs:List V)(H:Hp)(Q:VK)(E9:XK):Prop
 | mk (x a b c pl last fr:_) (g:Addr->Int) (t:Tr) (ms:List Int) (_:vs=[.ref x]) (_:Ml K cS cH cL cI H x a b c pl last ms fr g t) (_:∀D H',new K H D->H' D=some (.lst (ms.map V.int))->Ext K H H'->Q (.ref D) H')
include B in
theorem wF (F:bQ K "marks" "Store.marks" oY f fd)(SC:To K aZ)(HC:Tn K br):(!0) 1 f fd ["self"] (F2 K aZ br aM az):=by
 exists 0,["self"]
 obtain⟨x,a,b,c,pl,last,fr,g,t,ms,rfl,⟨dx,h,dh,R,kp,o,tr,s1,s2,s3,s4,s5'⟩,q⟩:=h;refine⟨_,(aE (aN (dI (iU K) rfl B.list cE (aa (mq (eK (jm (mq (eK cG))))) ah)))),?_⟩
 ext
 exact⟨_,_,_,s1,SC.cl,SC.yY,_,n8,h,rfl,_,_,_,s2,HC.cl,HC.kept,_,B7,kp,rfl,_,aI s4,λl nl=>q l _ nl af (Ext.new nl)⟩
inductive Py (K:Frag)(vs:List V)(H:Hp)(Q:VK)(E9:XK):Prop
 | mk (W M:_) (aA:List (Key×V)) (ms:List Int) (_:vs=[.ref W]) (_:H W=some (.dK aA)) (_:dO aA (.inr "marks")=some (.ref M)) (_:H M=some (.lst (ms.map V.int))) (_:ms.length<=1000) (_:∀D H',new K H D->H' D=some (.lst ((ms.map some++[none]).map on))->Ext K H H'->Q (.ref D) H')
include B in
theorem Cb (F:bQ K "_law_ats" "_law_ats" vC f fd):(!0) 1 f fd ["_law_world_here"] (Py K):=by
 exists 0,["_law_world_here"]
 obtain⟨W,M,aA,ms,rfl,hW,hv,hM,lm,q⟩:=h;refine⟨_,(aE (aN (cA dg (wL (fz hr.units cG (jm cJ) (λ_ _=>rfl))) (jx (aa iQ ah))))),?_⟩
 ext
 refine⟨_,jQ hW hv,λp np=>⟨M,rfl,_,(Ext.new np).at hM,by rw[ab];omega,λD nD=>q D _ (bL (Ext.new np) nD) ?_ ((Ext.new np).trans (Ext.new nD))⟩⟩;rw[af,bo,dn];rfl
inductive L1 (K:Frag)(cS cH cL cI:Addr)(vs:List V)(H:Hp)(Q:VK)(E9:XK):Prop
 | mk (x a b c pl f last fr:_) (g:Addr->Int) (t:Tr) (ms:List Int) (_:vs=[.ref x]) (_:Ml K cS cH cL cI H x a b c pl last ms fr g t) (_:Th a b c pl f last ms fr g t) (_:∀v H',aS K H H' (kq a b c pl last ms fr g t) v->Ext K H H'->Q v H')
inductive L4 (K:Frag)(cL cI:Addr)(vs:List V)(H:Hp)(Q:VK)(E9:XK):Prop
 | mk (t:Tr) (o) (g:Addr->Int) (a b c f) (_:vs=[.ref o]) (_:i9 K cL cI H g t o) (_:bB a b c t f 0 (10 ^ 12)) (_:f<=3) (_:∀W us H',new K H W->H' W=some (.lst us)->ao K H H' (t.pre.map (Tr.told g)) us->Ext K H H'->Q (.ref W) H')
include B in
theorem wG (F:bQ K "image" "Store.image" oZ f fd)(SC:To K aZ)(HC:Tn K br)(sO:⋯ "roll_of" 4 ["top"] (L4 K aM az))(ja:jJ P w K mg base aZ "marks" 1 ["self"] [] (F2 K aZ br aM az)):(!0) 5 f fd ["self"] (L1 K aZ br aM az):=by
 exists 0,["self"]
 obtain⟨x,a,b,c,pl,f,last,fr,g,t,ms,rfl,so,wo,q⟩:=h;have WR:=so;obtain⟨dx,h,dh,R,kp,o,tr,s1,s2,s3,s4,s5'⟩:=WR;have iI:=SC.cl;refine⟨_,(aE (aN (oR (aa (mq (eK cG)) (aa (mq (eK cG)) (aa (Di ja iI (rm hr) bg) (aa (mq (eK (jm (mq (eK cG))))) (aa (ec sO hr (aa (mq (eK (jm (mq (eK cG))))) ah)) ah)))))))),?_⟩
 ext
 refine⟨_,_,_,s1,SC.cl,SC.rule,_,L0,_,_,_,s1,SC.cl,SC.last,_,LZ,_,_,s1,Ea Q1 Q1 Q1 Q1,x,a,b,c,pl,last,fr,g,t,ms,rfl,so,λD H1 nD hD x1=>⟨_,_,_,x1.at s1,SC.cl,SC.yY,_,n8,h,rfl,_,_,_,x1.at s2,HC.cl,HC.fresh,_,Io,_,_,_,x1.at s1,SC.cl,SC.yY,_,n8,h,rfl,_,_,_,x1.at s2,HC.cl,HC.top,_,FU,t,o,g,a,b,c,f,rfl,s5'.ext x1,wo.ok,wo.f3,λW us H2 nW hW aW x2 T nT=>?_⟩⟩;have xT:=bX (.tup [V.ref R,V.int last,V.ref D,V.int fr,V.ref W]) nT;have x3:=x2.trans xT;refine q _ _ ?_ (x1.trans x3);exact aS.tt.mpr ⟨T,_,rfl,aK,ao.cons (aS.tt.mpr ⟨R,_,rfl,(x1.trans x3).tup s3,ao.cons (aS.ii.mpr rfl) (ao.cons (aS.ii.mpr rfl) (ao.cons (aS.ii.mpr rfl) (ao.cons (aS.ss.mpr rfl) ao.nil)))⟩) (ao.cons (aS.ii.mpr rfl) (ao.cons (aS.ll.mpr ⟨D,_,rfl,nD,x3.at hD,ao.ko ms⟩) (ao.cons (aS.ii.mpr rfl) (ao.cons (aS.ll.mpr ⟨W,us,rfl,bL x1 nW,xT.at hW,(aW.ext xT).old x1⟩) ao.nil))))⟩
def zb:Stmt->List Stmt
 | .While _ b _ _=>b
 | _=>[]
def Co (K:Frag)(H:Hp)(u:V)(o:Addr):Prop:=∃T l h,u=.ref T/\tupQ K H T=some [.ref o,.int l,.int h]
theorem Co.ext {o:Addr}(r:Co K H u o)(x:Ext K H H'):Co K H' u o:=by
 obtain⟨T,l,h,e,t⟩:=r;exact⟨T,l,h,e,x.tup t⟩
theorem Co.upd {o:Addr}{ys:List V}(r:Co K H u o)(hD:H D=some (.lst xs)):Co K (upd H D (.lst ys)) u o:=by
 obtain⟨T,l,h,e,t⟩:=r;exact⟨T,l,h,e,(Kp.upd hD).tup hD t⟩
inductive L5 (K:Frag)(cI:Addr)(vs:List V)(H:Hp)(Q:VK)(E9:XK):Prop
 | mk (o dx n Pv C Y lo hi:_) (os:List Addr) (aX:List Int) (_:vs=[.ref o,.int lo,.int hi]) (_:H o=some (.ins cI dx (Af n Pv C Y))) (_:H Pv=some (.lst (aX.map V.int))) (_:H C=some (.lst (os.map V.ref))) (_:os.length=aX.length + 1) (_:aX.length<=3) (_:∀D us H',new K H D->H' D=some (.lst us)->us.length=os.length->(∀q∈us.zip os,Co K H' q.1 q.2)->Ext K H H'->Q (.ref D) H')
inductive L6 (K:Frag)(cL cI:Addr)(vs:List V)(H:Hp)(Q:VK)(E9:XK):Prop
 | mk (t:Tr) (o) (g:Addr->Int) (a b c f) (_:vs=[.ref o]) (_:i9 K cL cI H g t o) (_:bB a b c t f 0 (10 ^ 12)) (_:f<=3) (_:∀D us os H',new K H D->H' D=some (.lst us)->us.length=os.length->cy K cL cI H g t.pre os->(∀q∈us.zip os,Co K H' q.1 q.2)->Ext K H H'->Q (.ref D) H')
include B in
theorem Aw (F:bQ K "all_rooms" "all_rooms" fP f fd)(jF:⋯ "children_of" 2 ["room","low","high"] (L5 K az)):(!0) 3 f fd ["top"] (L6 K aM az):=by
 exists 0,["top","told","waiting","room","low","high"]
 obtain⟨t,o,g,a,b,c,f,rfl,ho,ok,f3,q⟩:=h;refine aq (rest:=(aj fP).drop 3) (aE (aN cF)) λr4 J4 e4=>?_;refine aq (rest:=(zb ((aj fP).getD 2 (.Pass ⟨0,0,0,0⟩))).drop 2) (aE (gJ (Ck (dG (jm (bW j4 rfl B.isinstance gI (aa gB (aa (iR rfl B.Inner B.Lj) ah)))))) (aE (ss 2 nk (cA dg fC (Vf (ec jF hr (aa gB (aa nH (aa tZ ah)))))))) b8)) λr3 J3 e3=>?_;refine aq (rest:=(zb ((aj fP).getD 2 (.Pass ⟨0,0,0,0⟩))).drop 1) (ak (qt (SN PySem.F.plainAttrs_list PySem.F.slot_list_append PySem.F.type_list_append fM cF (aa (oR (aa gB (aa nH (aa tZ ah)))) ah))) J3) λr2 J2 e2=>?_;refine aq (rest:=(aj fP).drop 2) (ak (Jw PassesOwn.never (uQ fC (λ_=>rfl)) (ak (iS (U4 PySem.F.plainAttrs_list PySem.F.slot_list_pop PySem.F.type_list_pop Jl fC) (lA (dD (n:=3) rfl (ay (gn 3 nk) (ay (gn 4 nk) (ay (gn 5 nk) dR)))))) J2)) J4) λr1 J1 e1=>?_;refine⟨_,(ak (ss 1 nk (jx ah)) (ak (ss 2 nk (jx (aa (oR (aa bg (aa ei (aa (iR rfl B.Wd B.vD) ah)))) ah))) J1)),?_⟩
 ext
 intro D nD T0 nT0 Wt nWt;rw[e1]
 ext
 obtain⟨W,hW⟩:∃W:Nat->St->Hp->Prop,W=λm σ G=>Zn λ(i:Nat) (Cc:List V) (Mm:List Addr) (Wt:Addr) (Z:List (Tr×Addr×V)) (v3 v4 v5:Option V)=>Zq (uy σ [some (V.ref o),some (V.ref D),some (V.ref Wt),v3,v4,v5]) (m + i=t.pre.length) ((G D=some (.lst Cc)/\Cc.length=Mm.length)) (cy K aM az H g (t.pre.take i) Mm) (∀q∈Cc.zip Mm,Co K G q.1 q.2) ((G Wt=some (.lst (Z.map (·.2.2)))/\new K H Wt/\D≠Wt)) (∀z∈Z,i9 K aM az H g z.1 z.2.1/\Co K G z.2.2 z.2.1) (c8 (Z.reverse.map (·.1))=t.pre.drop i) (Ext K H G):=⟨_,rfl⟩
 have y1:=bX (.lst []) nD;have y2:=bX (.tup [V.ref o,V.int 0,V.int 1000000000000]) nT0;have y3:=bX (.lst [V.ref T0]) nWt;have yy:=y1.trans (y2.trans y3);have DN:D≠Wt:=aH (y2.at (af (H:=H) (a:=D) (o:=.lst []))) nWt.1;refine⟨W,⟨t.pre.length,?_⟩,λm σ G hw=>?_⟩
 . rw[hW];refine⟨0,[],[],Wt,[(t,o,.ref T0)],none,none,none,rfl,Nat.add_zero _,⟨(y2.trans y3).at af,rfl⟩,by unfold cy;rfl,λq hq=>(by cases hq),⟨af,bL y1 (bL y2 nWt),DN⟩,λz hz=>?_,?_,yy⟩
   . rw[cw.mp hz];exact⟨ho,T0,_,_,rfl,y3.tup aK⟩
   . show t.pre++[]=_;rw[List.append_nil];rfl
 have LD:t.pre.length<=1000:=by
   have h1:=ok.jw.1;rw[dj,ab]at h1;have h2:sz f<=1000:=by
     have:f=0∨f=1∨f=2∨f=3:=QR
     rcases this with rfl | rfl | rfl | rfl <;> decide
   omega
 rw[hW]at hw;obtain⟨i,Cc,Mm,Wt,Z,v3,v4,v5,rfl,hm,⟨hD,lu⟩,hos,hrm,⟨Iz,nWt,DN⟩,hZ,hp,xG⟩:=hw
 ext
 rcases mn Z with rfl | ⟨Z0,z,rfl⟩
 . refine⟨false,.inl ⟨_,aR.of Iz,rfl⟩,aJ RF ?_⟩;have ei:i=t.pre.length:=by
     have:t.pre.drop i=[]:=hp.symm;have:=List.drop_eq_nil_iff.mp this;omega
   rw[ei,dv]at hos;rw[e4]
   ext
   exact q D Cc Mm G nD hD lu hos hrm xG
 . rw[va]at Iz hZ hp;refine⟨true,.inl ⟨_,aR.of Iz,by simp⟩,bq rfl ?_⟩;obtain⟨u,oz,uz⟩:=z;obtain⟨hOu,T,l,h,e,hT⟩:=hZ (u,oz,uz) RR;have e:uz=.ref T:=e;subst e;have Iz:G Wt=some (.lst (Z0.map (·.2.2)++[V.ref T])):=by rw[bo]at Iz;exact Iz
   have Ri:u::(c8 u.kids++c8 (Z0.reverse.map (·.1)))=t.pre.drop i:=by
     rw[<- hp,pE];show _=u.pre++_;rw[g7];rfl
   have jg:i < t.pre.length:=by
     by_cases c:i < t.pre.length
     . exact c
     . rw[List.drop_eq_nil_of_le QR]at Ri;cases Ri
   rw[List.drop_eq_getElem_cons jg]at Ri;obtain⟨eu,ed⟩:=List.cons.inj Ri;have hu:t.pre[i]?=some u:=by rw[a9 jg,eu]
   have et:t.pre.take (i + 1)=t.pre.take i++[u]:=by rw[List.take_add_one,hu];rfl
   obtain⟨f',jt,fF,oku⟩:=ok.pre u (ba hu);have k1:=Kp.upd (K:=K) (o:=.lst (Z0.map (·.2.2))) Iz;have WN:=k1.tup Iz hT;have yS:=k1.keep D _ hD DN;have WS:∀q∈Cc.zip Mm,Co K (upd G Wt (.lst (Z0.map (·.2.2)))) q.1 q.2:=λq hq=>(hrm q hq).upd Iz;have hZ1:∀z∈Z0,i9 K aM az H g z.1 z.2.1/\Co K (upd G Wt (.lst (Z0.map (·.2.2)))) z.2.2 z.2.1:=λz hz=>⟨(hZ z (by simp[hz])).1,(hZ z (by simp[hz])).2.upd Iz⟩
   have xN:∀{A:Addr}{G':Hp}{o:HO},new K H A->Ext K H G'->Ext K H (upd G' A o):=λn x=>⟨λr o e=>by rw[au (aH e n.1)];exact x.at e,λr xs e md=>by rw[au (λz=>by rw[z,n.2]at md;cases md)];exact x.mod r xs e md⟩
   have x1:=xN (o:=.lst (Z0.map (·.2.2))) nWt xG;have WO:upd G Wt (.lst (Z0.map (·.2.2))) Wt=some (.lst (Z0.map (·.2.2))):=af;refine⟨W (m - 1),λσ' H' h=>⟨m - 1,by omega,h⟩,.inl ⟨_,aR.of Iz⟩,_,Iz,.ref T,by simp,T,rfl,_,by rw[pj];exact WN,rfl,_,_,rfl,_,_,rfl,_,_,rfl,rfl,?_⟩;rw[pj,e2];generalize upd G Wt (.lst (Z0.map (·.2.2)))=G1 at WN yS WS hZ1 x1 WO ⊢
   ext
   refine⟨.inl ⟨_,aR.of yS⟩,λT' Iq=>?_⟩;have xT:=bX (.tup [V.ref oz,V.int l,V.int h]) Iq;have Tj:Cc.length<=1000:=by
     have:=hos.len;rw[fb]at this;omega
   refine⟨_,xT.at yS,dt Tj RF,?_⟩;rw[e3];have kD:=Kp.upd (K:=K) (o:=.lst (Cc++[V.ref T'])) (xT.at yS);have mL:upd (upd G1 T' (.tup [V.ref oz,V.int l,V.int h])) D (.lst (Cc++[V.ref T'])) D=some (.lst (Cc++[V.ref T'])):=af;have Mi:=kD.keep Wt _ (xT.at WO) (Ne.symm DN);have x2:=xN (o:=.lst (Cc++[V.ref T'])) nD (x1.trans xT);have LW:cy K aM az H g (t.pre.take (i + 1)) (Mm++[oz]):=by rw[et];exact hos.snoc hOu
   have XY:∀z∈Z0,i9 K aM az H g z.1 z.2.1/\Co K (upd (upd G1 T' (.tup [V.ref oz,V.int l,V.int h])) D (.lst (Cc++[V.ref T']))) z.2.2 z.2.1:=λz hz=>⟨(hZ1 z hz).1,((hZ1 z hz).2.ext xT).upd (xT.at yS)⟩
   have SD:∀q∈(Cc++[V.ref T']).zip (Mm++[oz]),Co K (upd (upd G1 T' (.tup [V.ref oz,V.int l,V.int h])) D (.lst (Cc++[V.ref T']))) q.1 q.2:=λq hq=>by
     rw[List.zip_append lu]at hq;rcases da.mp hq with hq | hq
     . exact((WS q hq).ext xT).upd (xT.at yS)
     . rw[cw.mp hq];exact⟨T',l,h,rfl,kD.tup (xT.at yS) aK⟩
   have lu2:(Cc++[V.ref T']).length=(Mm++[oz]).length:=by rw[ax,ax,lu];rfl
   generalize upd (upd G1 T' (.tup [V.ref oz,V.int l,V.int h])) D (.lst (Cc++[V.ref T']))=G2 at mL Mi x2 XY SD ⊢
   ext
   cases u with
   | leaf A' l' h' rows=>
     have hO:=hOu.ext x2;unfold i9 at hO;obtain⟨dx,R,us,H0,h1,_⟩:=hO;refine⟨_,B.Zy h1,false,B.kLI,aJ RF ?_⟩;rw[hW];exact⟨i + 1,_,_,Wt,Z0,_,_,_,rfl,by omega,⟨mL,lu2⟩,LW,SD,⟨Mi,nWt,DN⟩,XY,ed,x2⟩
   | inner A' l' h' aX aU ks=>
     have hO:=hOu;unfold i9 at hO;obtain⟨dx,Pv,C,Y,us,os',H0,h1,h2,h3,h4,h5,h6⟩:=hO;unfold bB at oku;obtain⟨_,_,l3,_,g',_,_,tk⟩:=oku;have Wu:=tk.len;have XU:=h6.len;refine⟨_,B.Zz (x2.at h1),true,B.kII,bq rfl ?_⟩;refine⟨oz,dx,g A',Pv,C,Y,l,h,os',aX,rfl,x2.at h1,x2.at h2,x2.at h3,by omega,l3,λD1 us1 G3 nD1 hD1' lu1 rm1 x3=>?_⟩;have lZ:Z0.length<=1000:=by
       have h1:=qY (Z0.reverse.map (·.1));have h2:=congrArg List.length ed;rw[ab,fo]at h1;rw[ax,i5]at h2;omega
     refine⟨D1,rfl,us1,aR.of hD1',λp np=>⟨Z0.map (·.2.2),(Ext.new np).at (x3.at Mi),by rw[ab,fo];omega,λWt' nWt'=>?_⟩⟩;have z3:=x3.trans (bX (.lst us1.reverse) np);have z4:=z3.trans (bX (.lst (Z0.map (·.2.2)++us1.reverse)) nWt');have z5:=(bX (.lst us1.reverse) np).trans (bX (.lst (Z0.map (·.2.2)++us1.reverse)) nWt');have m1:(ks.zip (os'.zip us1)).map (·.2.2)=us1:=by
       rw[show(λq:Tr×Addr×V=>q.2.2)=Prod.snd ∘ Prod.snd from rfl,<- dn,pw (by rw[my];omega),pw QR]
     have m2:(ks.zip (os'.zip us1)).map (·.1)=ks:=oe (by rw[my];omega);rw[hW];refine⟨i + 1,Cc++[V.ref T'],Mm++[oz],Wt',Z0++(ks.zip (os'.zip us1)).reverse,some (V.ref oz),some (V.int l),some (V.int h),rfl,by omega,⟨z4.at mL,lu2⟩,LW,λq hq=>(SD q hq).ext z4,⟨by rw[bo,zt,m1];exact af,bL (x2.trans z3) nWt',aH (z3.at mL) nWt'.1⟩,λz hz=>?_,?_,x2.trans z4⟩
     . rcases da.mp hz with hz | hz
       . exact⟨(XY z hz).1,(XY z hz).2.ext z4⟩
       . obtain⟨j,hj⟩:=mx (t5.mp hz);rw[de,de]at hj;refine⟨h6.zip (z.1,z.2.1) (ba (i:=j) (de.mpr ⟨hj.1,hj.2.1⟩)),(rm1 (z.2.2,z.2.1) (ba (i:=j) (de.mpr ⟨hj.2.2,hj.2.1⟩))).ext z5⟩
     . rw[pE,vw,bo,m2,qR];exact ed
include B in
theorem Eb (F:bQ K "roll_of" "roll_of" yQ f fd)(nc:⋯ "all_rooms" 3 ["top"] (L6 K aM az))(ng:⋯ "room_told" 2 ["room"] (FZ K aM az)):(!0) 4 f fd ["top"] (L4 K aM az):=by
 exists 0,["top"]
 obtain⟨t,o,g,a,b,c,f,rfl,ho,ok,f3,q⟩:=h;refine⟨_,(aE (aN (qe (ck [ "room","low","high" ] [none,none,none]) rfl (j5 (bU (jm (ec nc hr (aa bg ah))))) (λ_ _ _ _=>(lA (iT K (n:=3) rfl (ay (gn 0 nk) (ay (gn 1 nk) (ay (gn 2 nk) dR)))))) (λ_ _ _ _=>c6) (λ_ _ _ _=>(ec ng hr (aa bg ah)))))),?_⟩
 ext
 refine⟨t,o,g,a,b,c,f,rfl,ho,ok,f3,λD us os H1 nD hD lu hos hrm x1=>?_⟩;have XU:=hos.len;have LD:t.pre.length<=1000:=by
   have h1:=ok.jw.1;rw[dj,ab]at h1;have h2:sz f<=1000:=by
     have:f=0∨f=1∨f=2∨f=3:=QR
     rcases this with rfl | rfl | rfl | rfl <;> decide
   omega
 refine⟨D,rfl,⟨_,aR.of hD⟩,λN nN=>iF (xs:=us) (λi acc σ G=>Sb λ(v0 v1 v2:Option V)=>V5 (uy σ [v0,v1,v2]) (G N=some (.lst acc)) (acc.length=i) (ao K (upd H1 N (.lst [])) G ((t.pre.take i).map (Tr.told g)) acc) (Kp K N (upd H1 N (.lst [])) G)) ⟨_,_,_,rfl,af,rfl,ao.nil,Kp.refl⟩ ?_ ?_ ?_⟩
 . rintro i acc σ G _ ⟨v0,v1,v2,rfl,_,_,_,k⟩;exact aR.of ((k.ext nN).at hD)
 . rintro i x acc σ G hx ⟨v0,v1,v2,rfl,hN,la,ha,k⟩;have hi:i < us.length:=(bc.mp hx).1;obtain⟨oj,hoj⟩:∃oj,os[i]?=some oj:=⟨_,a9 QR⟩
   obtain⟨u,hu⟩:∃u,t.pre[i]?=some u:=⟨_,a9 QR⟩
   obtain⟨f',jt,fF,oku⟩:=ok.pre u (ba hu);have xG:=k.ext nN;obtain⟨T,l,h,e,hT⟩:=(hrm (x,oj) (ba (i:=i) (de.mpr ⟨hx,hoj⟩))).ext xG;have e:x=.ref T:=e;subst e;obtain⟨oj',eo,hO⟩:=hos.at hu;rw[hoj]at eo;cases eo;simp_arith [hT];refine⟨u,oj,g,a,b,c,f',jt,fF,rfl,hO.ext (x1.trans xG),oku,λv G2 at2 x2=>?_⟩;have XZ:=x2.at hN;have N4:=at2.pN λa n=>fB k hN n;refine⟨XZ,by rw[la];exact bp hi (cn (show us.length<=1000 by omega) RF),_,_,_,rfl,trivial,by rw[ax,la];rfl,?_,k.trans (x2.kp.trans (Kp.upd XZ))⟩;rw[List.take_add_one,hu,ip];exact((ha.ext x2).map N4).fr (Fr.kp (K:=K) (H0:=upd H1 N (.lst [])) af XZ (Kp.upd XZ))
 . rintro acc σ G ⟨v0,v1,v2,rfl,hN,la,ha,k⟩;rw[show us.length=t.pre.length by omega,dv]at ha;exact q N acc G (bL x1 nN) hN ((ha.old (Ext.new nN)).old x1) (x1.trans (k.ext nN))
inductive F3 (K:Frag)(vs:List V)(H:Hp)(Q:VK)(E9:XK):Prop
 | mk (p:_) (_:vs=[.ref p]) (_:Wl H p) (_:∀H',Kp K p H H'->Q (.bl true) H')
inductive F4 (K:Frag)(vs:List V)(H:Hp)(Q:VK)(E9:XK):Prop
 | mk (a:Addr) (ns:List Int) (_:vs=[.ref a]) (_:aR K H a (ns.map V.int)) (_:ns.length<=63) (_:M1 H) (_:∀H',Q (.bl true) H')
theorem L7 (ns:List Int)(l h:Option Int):∃ms:List Int,rN (ns.map V.int) l h=ms.map V.int:=by
 unfold rN;exact⟨(ns.drop _).take _,by rw[List.map_take,xl]⟩
include B in
theorem SE (F:bQ K "law" "law" O9 f fd)(jb:⋯ "_law_cell_at" 1 ["_law_script","_law_k"] (Lu K))(nj:⋯ "_law_well" 1 ["_law_cell"] (Lv K))(kM:⋯ "_law_right" 13 ["_law_well_here"] (F3 K)):(!0) 14 f fd ["_law_script"] (F4 K):=by
 exists 0,["_law_script","_law_cell"]
 obtain⟨a,ns,rfl,ha,ln,_,q⟩:=h;refine⟨_,(ak (lT PassesOwn.never rfl (j5 (bU (jm (cA dg (jx (aa (ec jb hr (aa bg (aa ei ah))) ah)) (zv qw bg (A5 ei) (A5 ei)))))) (gn 1 nk) (aE (gJ (dZ (dG (ec kM hr (aa (ec nj hr (aa cF ah)) ah)))) (aE (aN rQ)) b8))) (aE (aN rQ))),?_⟩
 ext
 refine⟨a,ns,0,rfl,ha,kl _,λn p np=>⟨_,(Ext.new np).same.seq ha,λp1 np1=>⟨[.int n],(Ext.new np1).at af,?_,λp2 np2=>?_⟩⟩⟩
 . have:=sU (ns.map V.int) (some 1) (some 4);rw[ab]at this;simp only[ke];omega
 obtain⟨ms,em⟩:=L7 ns (some 1) (some 4);rw[em]at np2 ⊢;have h2:upd (upd (upd H p (.lst [V.int n])) p1 (.lst (ms.map V.int))) p2 (.lst ([V.int n]++ms.map V.int)) p2=some (.lst ((n::ms).map V.int)):=af;generalize upd (upd (upd H p (.lst [V.int n])) p1 (.lst (ms.map V.int))) p2 (.lst ([V.int n]++ms.map V.int))=G at h2 ⊢;refine⟨⟨_,aR.of h2⟩,dW (xs:=(n::ms).map V.int) (λi σ G'=>Xn λ(v1:Option V)=>O2 (uy σ [some (V.ref a),v1]) (Ext K G G')) ⟨_,rfl,Ext.refl⟩ ?_ ?_ ?_⟩
 . rintro i σ G' _ ⟨v1,rfl,x⟩;exact aR.of (x.at h2)
 . rintro i x σ G' hx ⟨v1,rfl,xG⟩;rw[bb]at hx;obtain⟨c,_,rfl⟩:=bj.mp hx
   ext
   exact⟨c,rfl,λp x y z np=>⟨p,rfl,⟨x,y,z,af⟩,λG2 k=>⟨true,rfl,aJ RF ⟨_,rfl,xG.trans (k.ext np)⟩⟩⟩⟩
 . rintro σ G' ⟨v1,rfl,_⟩
   ext
   exact q G'
inductive Pz (K:Frag)(cI:Addr)(vs:List V)(H:Hp)(Q:VK)(E9:XK):Prop
 | mk (o dx n Pv C Y lo hi:_) (aX:List Int) (_:vs=[.ref o,.int lo,.int hi]) (_:H o=some (.ins cI dx (Af n Pv C Y))) (_:H Pv=some (.lst (aX.map V.int))) (_:aX.length<=3) (_:∀D H',∀L:List Addr,new K H D->H' D=some (.lst (L.map V.ref))->L.length=aX.length + 1->(∀T∈L,∃l h:Int,H' T=some (.tup [.int l,.int h]))->Ext K H H'->Q (.ref D) H')
include B in
theorem Ax (F:bQ K "stretches" "stretches" mF f fd):(!0) 1 f fd ["room","low","high"] (Pz K az):=by
 exists 0,["room","low","high","edges"]
 obtain⟨o,dx,n,Pv,C,Y,lo,hi,aX,rfl,h1,h2,l3,q⟩:=h;refine aq (rest:=(aj mF).drop 1) (aE (aN (HB rfl rfl B.list rfl B.zip (aa gB (aa (zv qw gB (A5 ei) Jx) ah))))) λr1 J1 e1=>?_;refine⟨_,(ak (ss 3 nk (cA dg (cA dg (jx (aa cF ah)) (mq (eK cG))) (jx (aa fC ah)))) J1),?_⟩
 ext
 intro p np;have x1:=bX (.lst [V.int lo]) np;refine⟨_,_,_,x1.at h1,B.cI,B.nI.2.1,_,An,Pv,rfl,_,x1.at h2,by rw[ab];omega,λp1 np1 p2 np2=>⟨_,(Ext.new np2).at af,by rw[List.length_cons,ab];omega,λp3 np3=>?_⟩⟩;have x2:=bX (.lst (V.int lo::aX.map V.int)) np1;have x3:=x1.trans (x2.trans ((Ext.new np2).trans (bX (.lst (V.int lo::aX.map V.int++[V.int hi])) np3)));have h3:upd (upd (upd (upd H p (.lst [V.int lo])) p1 (.lst (V.int lo::aX.map V.int))) p2 (.lst [V.int hi])) p3 (.lst (V.int lo::aX.map V.int++[V.int hi])) p3=some (.lst ((lo::aX++[hi]).map V.int)):=by rw[af,bo];rfl
 rw[e1];generalize upd (upd (upd (upd H p (.lst [V.int lo])) p1 (.lst (V.int lo::aX.map V.int))) p2 (.lst [V.int hi])) p3 (.lst (V.int lo::aX.map V.int++[V.int hi]))=G at x3 h3 ⊢
 ext
 refine⟨_,aR.of h3,λp4 np4=>?_⟩;have ec:rN ((lo::aX++[hi]).map V.int) (some 1) none=(aX++[hi]).map V.int:=by
   exact rS _ 1
 rw[ec];have x4:=bX (.lst ((aX++[hi]).map V.int)) np4;refine⟨_,aR.of (x4.at h3),_,aR.of af,aX.length + 1,by simp,by simp,by omega,by omega,λD L H' nD lL _ _ hD x5 hT=>?_⟩;have x6:=x3.trans x4;refine q D H' L (bL x6 nD) hD lL (λT hm=>?_) (x6.trans x5);obtain⟨j,hj⟩:=mx hm;have jg:j < aX.length + 1:=lL ▸ (bc.mp hj).1;obtain⟨a,ea⟩:∃a,(lo::aX++[hi])[j]?=some a:=⟨_,a9 Sr⟩
 obtain⟨b,eb⟩:∃b,(aX++[hi])[j]?=some b:=⟨_,a9 Sr⟩
 have:=(hT j T hj).2;simp only[bb,ea,eb,Option.map_some,Option.getD_some]at this;exact⟨a,b,this⟩
include B in
theorem wH (F:bQ K "children_of" "children_of" oW f fd)(nq:⋯ "stretches" 1 ["room","low","high"] (Pz K az)):(!0) 2 f fd ["room","low","high"] (L5 K az):=by
 exists 0,["room","low","high"]
 obtain⟨o,dx,n,Pv,C,Y,lo,hi,os,aX,rfl,h1,h2,h3,jt,l3,q⟩:=h;refine⟨_,(aE (aN (qe (ck [ "child","first","end" ] [none,none,none]) rfl (O3 rfl B.zip (aa (mq (eK cG)) (aa (ec nq hr (aa bg (aa cF (aa fC ah)))) ah))) (λ_ _ _ _=>(lA (iT K (n:=2) rfl (ay (gn 0 nk) (ay (lA (iT K (n:=2) rfl (ay (gn 1 nk) (ay (gn 2 nk) dR)))) dR))))) (λ_ _ _ _=>c6) (λ_ _ _ _=>(Tc (uU K (am (aa bg (aa cF (aa fC ah)))))))))),?_⟩
 ext
 refine⟨_,_,_,h1,B.cI,B.nI.2.2.1,_,D4,o,dx,n,Pv,C,Y,lo,hi,aX,rfl,h1,h2,l3,λS H1 L nS hS lL hT x1=>⟨C,rfl,S,rfl,⟨_,aR.of (x1.at h3)⟩,⟨_,aR.of hS⟩,λD nD=>?_⟩⟩;have xD:=bX (.lst []) nD;refine Rn (xs:=os.map V.ref) (ys:=L.map V.ref) (λi acc σ G=>Sb λ(v0 v1 v2:Option V)=>V5 (uy σ [v0,v1,v2]) (G D=some (.lst acc)) (acc.length=i) (∀q∈acc.zip os,Co K G q.1 q.2) (Kp K D (upd H1 D (.lst [])) G)) (by rw[ab,ab];omega) ⟨_,_,_,rfl,af,rfl,λq hq=>(by cases hq),Kp.refl⟩ ?_ ?_ ?_
 . rintro i acc σ G _ ⟨v0,v1,v2,rfl,_,_,_,k⟩;exact⟨aR.of ((k.ext nD).at (x1.at h3)),aR.of ((k.ext nD).at hS)⟩
 . rintro i x y acc σ G T hx hy ⟨v0,v1,v2,rfl,hD,la,hr,k⟩ nT;rw[bb]at hx hy;obtain⟨oi,hoi,rfl⟩:=bj.mp hx;obtain⟨Ti,hTi,rfl⟩:=bj.mp hy;obtain⟨l,h,hl⟩:=hT Ti (ba hTi);have xT:=bX (.tup [V.ref oi,V.ref Ti]) nT;have hl':=A6 (K:=K) (xT.at ((k.ext nD).at hl))
   ext
   refine⟨_,hl',rfl,_,_,rfl,_,_,rfl,rfl,λp np=>?_⟩;have xp:=xT.trans (bX (.tup [V.ref oi,V.int l,V.int h]) np);have mL:=xp.at hD;have hi:i < os.length:=(bc.mp hoi).1;refine⟨mL,by omega,_,_,_,rfl,trivial,by rw[ax,la];rfl,λz hz=>?_,k.trans (xp.kp.trans (Kp.upd mL))⟩;obtain⟨j,hj⟩:=mx hz;rw[de]at hj;rcases Nat.lt_or_ge j acc.length with c | c
   . rw[ky c]at hj;exact((hr z (ba (i:=j) (de.mpr hj))).ext xp).upd mL
   . have hjl:=(bc.mp hj.1).1;rw[ax,ke]at hjl;have ej:j=i:=QR
     rw[kf c,ej,la,Ap,hoi]at hj;obtain⟨z1,z2⟩:=z;cases hj.1;cases hj.2;exact Co.upd ⟨p,l,h,rfl,aK⟩ mL
 . rintro acc σ G ⟨v0,v1,v2,rfl,hD,la,hr,k⟩;exact q D acc G (bL x1 nD) hD (by rw[la,ab]) hr (x1.trans (k.ext nD))
def wJ (K:Frag)(t:Tr)(ms:List Int)(H:Hp)(v:V):Prop:=∃(T:Addr) (k:Int) (o:Option Int) (ts:List Tr),v=.ref T/\tupQ K H T=some [.int k,on o,on (iB k o ts)]/\Path k t ts/\(0<=k/\k < 10 ^ 12)/\∀m,o=some m->m∈ms
theorem wJ.ext {t:Tr}{v:V}(h:wJ K t ms H v)(x:Ext K H H'):wJ K t ms H' v:=by
 obtain⟨T,k,o,ts,e,hT,r⟩:=h;exact⟨T,k,o,ts,e,x.tup hT,r⟩
theorem wJ.upd {t:Tr}{v:V}{ys:List V}(h:wJ K t ms H v)(hD:H D=some (.lst xs)):wJ K t ms (upd H D (.lst ys)) v:=by
 obtain⟨T,k,o,ts,e,hT,r⟩:=h;exact⟨T,k,o,ts,e,(Kp.upd hD).tup hD hT,r⟩
include B in
theorem xO (F:bQ K "_law_right" "_law_right" bF f fd)(iI:uo K aZ)(kO:⋯ "_law_world" 12 ["_law_well_here"] (Fo K))(ai:⋯ "_law_draw" 1 ["_law_well_here","_law_many"] (ig K))(pZ:⋯ "store_of" 10 ["image"] (Aj K aZ br aM az))(gq:jJ P w K mg base aZ "image" 5 ["self"] [] (L1 K aZ br aM az))(qc:⋯ "_law_ats" 1 ["_law_world_here"] (Py K))(g8:⋯ "_law_view" 5 ["_law_room_here","_law_key","_law_when"] (sM K 4))(gw:⋯ "_law_alike" 1 ["_law_found","_law_due"] (Px K))(gR:K4 P w K mg base aZ "read" 6 ["self","key","at"] ["at"] 2 1 (uF K aZ br aM az))(jG:jJ P w K mg base aZ "read" 6 ["self","key","at"] [.bO] (uF K aZ br aM az)):(!0) 13 f fd ["_law_well_here"] (F3 K):=by
 exists 0,["_law_well_here","_law_world_here","_law_held","_law_far","_law_store","_law_asked","_law_when","_law_key","_law_due"]
 obtain⟨p,rfl,hp,q⟩:=h;refine aq (rest:=(aj bF).drop 8) (aE (aN (Az (eE (jm (fE fq (bW (j3 hr.gd hr.units) rfl B.repr uq (aa (Di gq iI (rm hr) nH) ah)) fC (aF _))) (gA (fE fq (bW (j3 hr.gd hr.units) rfl B.repr uq (aa (wL (fz hr.units lE (jm cJ) (λ_ _=>rfl))) ah)) fC (aF _))))))) λr11 J11 e11=>?_;refine aq (rest:=(aj bF).drop 7) (ak (lT PassesOwn.never rfl (j5 (bU (jm (V9 (i:=2) tZ)))) (lA (dD (n:=3) rfl (ay (gn 7 nk) (ay (gn 6 nk) (ay (gn 8 nk) dR))))) (aE (gJ (dZ (dG (ec gw hr (aa (Lb gR iI (rm hr) nH (aa HL ah) (A9 Cm Ka)) (aa yL ah))))) (aE (aN rQ)) b8))) J11) λr10 J10 e10=>?_;refine aq (rest:=(cR ((cR ((aj bF).getD 6 (.Pass ⟨0,0,0,0⟩))).getD 0 (.Pass ⟨0,0,0,0⟩))).drop 3) (aE (gJ (tw (Jv (cM (cg (om iO) NY (jm iQ) (aF _))) (A4 (dZ (dG (ec gw hr (aa (RL (u6 jG iI (rm hr) Wc (aa HL ah))) (aa yL ah)))))))) (aE (aN rQ)) b8)) λr9 J9 e9=>?_;refine aq (rest:=(cR ((cR ((aj bF).getD 6 (.Pass ⟨0,0,0,0⟩))).getD 0 (.Pass ⟨0,0,0,0⟩))).drop 2) (ak (gJ (dZ (dG (ec gw hr (aa (Lb gR iI (rm hr) nH (aa HL ah) (A9 Cm Ka)) (aa yL ah))))) (aE (aN rQ)) b8) J9) λr8 J8 e8=>?_;refine aq (rest:=(cR ((cR ((aj bF).getD 6 (.Pass ⟨0,0,0,0⟩))).getD 0 (.Pass ⟨0,0,0,0⟩))).drop 1) (ak (qt (SN PySem.F.plainAttrs_list PySem.F.slot_list_append PySem.F.type_list_append fM tZ (aa (oR (aa HL (aa Cm (aa yL ah)))) ah))) J8) λr7 J7 e7=>?_;refine aq (rest:=(aj bF).drop 6) (ak (lT PassesOwn.never rfl (j5 (bU (jm (ec qc hr (aa cF ah))))) (gn 6 nk) (aE (lT PassesOwn.never rfl (j5 (bU (jm (j0 rfl rfl B.sorted rfl B.set (aa (cA dg (wL (fz hr.units lE (jm cJ) (λ_ _=>rfl))) gB) ah))))) (gn 7 nk) (ak (ss 8 nk (ec g8 hr (aa (wL (fz hr.units lE (jm cJ) (λ_ _=>rfl))) (aa HL (aa Cm ah))))) J7)))) J10) λr6 J6 e6=>?_;refine aq (rest:=(aj bF).drop 5) (ak (ss 5 nk (jx ah)) J6) λr5 J5 e5=>?_;refine aq (rest:=(aj bF).drop 4) (ak (gJ (cM (cg (om sR) (jm (bW (j3 hr.gd hr.units) rfl B.repr uq (aa (Di gq iI (rm hr) nH) ah))) HN (aF _))) (aE (aN rQ)) b8) J5) λr4 J4 e4=>?_;refine aq (rest:=(aj bF).drop 3) (ak (ss 4 nk (ec pZ hr (aa (wL (fz hr.units lE (jm cJ) (λ_ _=>rfl))) ah))) J4) λr3 J3 e3=>?_;refine aq (rest:=(aj bF).drop 2) (ak (ss 3 nk (jx (aa (cA (mC fK) (ec ai hr (aa bg (aa (ji 1000000000) ah))) ei) (aa (cA (mA fW) (ji 1000000000000) ei) ah)))) J3) λr2 J2 e2=>?_;refine aq (rest:=(aj bF).drop 1) (ak (ss 2 nk (bW (j3 hr.gd hr.units) rfl B.repr uq (aa (wL (fz hr.units lE (jm cJ) (λ_ _=>rfl))) ah))) J2) λr1 J1 e1=>?_;refine⟨_,(ak (ss 1 nk (ec kO hr (aa bg ah))) J1),?_⟩
 ext
 refine⟨p,rfl,hp,λW M im ks ms bs t S a b c pl f last fr g H1 wa sg Je Wu wo qQ k1=>?_⟩;obtain⟨⟨Kd,hW,WA,nKd⟩,nW,atim,la,hM,nM⟩:=wa;obtain⟨T,_,_,_,_,rfl,_⟩:=vW atim;have sh:=LY wo;obtain⟨d,hd⟩:∃d,d=kq a b c pl last ms fr g t:=⟨_,rfl⟩
 rw[<- hd]at atim sh;obtain⟨sh1,sh2,sh3,sh4⟩:=sh;rw[e1]
 ext
 refine⟨_,jQ hW vP,T,rfl,d,atim.is,sh1,sh2,sh3,sh4,?_⟩;rw[e2]
 ext
 refine⟨p,_,rfl,qQ,by decide,by decide,λr H2 r0 r1' lg k2=>⟨r,rfl,λFa nFa=>?_⟩⟩;obtain⟨yp0,ep0⟩:=hp.lst;obtain⟨yp1,ep1⟩:=qQ.lst;have xF:=bX (.lst [V.int (r * 1000),V.int 999999999999]) nFa;have N3:Fr K H H1 (upd H2 Fa (.lst [V.int (r * 1000),V.int 999999999999])):=(Fr.kp ep0 ep1 k2).trans (Fr.ext xF);have Mi:=N3.k _ _ nW hW;have WT:=N3.k _ _ nKd WA;have hM2:=N3.k _ _ nM hM;have at2:=atim.fr N3;have la2:=la.fr N3;have hFa:upd H2 Fa (.lst [V.int (r * 1000),V.int 999999999999]) Fa=some (.lst ([r * 1000,999999999999].map V.int)):=af;have OO:=k1.trans (k2.trans xF.kp);clear hW WA hM atim la k1 k2 xF N3 qQ lg nFa ep1;generalize upd H2 Fa (.lst [V.int (r * 1000),V.int 999999999999])=G2 at *;rw[e3]
 ext
 refine⟨_,jQ Mi vP,.ref T,H,a,b,c,pl,f,last,ms,fr,g,t,rfl,hd ▸ at2,wo,λx H3 so x3=>?_⟩;rw[e4]
 ext
 have img:∀{G:Hp}{N:VK},Ml K aZ br aM az G x a b c pl last ms fr g t->(∀v G',Is K G' d (.ref v)->Ext K G G'->N (.ref v) G')->∃dx fs,G x=some (.ins aZ dx fs)/\List.lookup ("image":Str) fs=none/\L1 K aZ br aM az [.ref x] G N E0:=by
   intro G N so n;have WR:=so;obtain⟨dx,h,dh,R,k,o,tr,s1,_⟩:=WR;refine⟨_,_,s1,Ea Q1 Q1 Q1 Q1,x,a,b,c,pl,f,last,fr,g,t,ms,rfl,so,wo,λv G' hv y=>?_⟩;obtain⟨T',_,_,_,_,rfl,_⟩:=vW hv;exact n T' G' (hd ▸ hv.is) y
 have rdK:∀{G:Hp}{N:VK}{k:Int}{o:Option Int}{ts:List Tr},Ml K aZ br aM az G x a b c pl last ms fr g t->0<=k/\k < 10 ^ 12->(∀m,o=some m->m∈ms)->Path k t ts->(∀G',Ext K G G'->N (on (iB k o ts)) G')->∃dx fs,G x=some (.ins aZ dx fs)/\List.lookup ("read":Str) fs=none/\uF K aZ br aM az [.ref x,.int k,on o] G N E0:=by
   intro G N k o ts so kr ho pt n;have WR:=so;obtain⟨dx,h,dh,R,k',o',tr,s1,_⟩:=WR;refine⟨_,_,s1,Ea Q1 Q1 Q1 Q1,x,a,b,c,pl,last,fr,g,t,f,0,10 ^ 12,k,o,ms,rfl,so,wo.ok,wo.f3,kr.1,kr.2,ho,λts' G' pt' y=>?_⟩;rw[pt'.one pt];exact n G' y
 refine img so λT' H4 isT x4=>⟨T',rfl,d,isT,sh1,sh2,sh3,sh4,aJ RR ?_⟩
 have xx:=x3.trans x4;have X0:=xx.at Mi;have aaw:=xx.at WT;have hM4:=xx.at hM2;have at4:=at2.ext xx;have la4:=la2.fr (Fr.ext xx);have aax:=xx.at hFa;have so4:=so.ext x4;have kp4:=OO.trans xx.kp;clear Mi WT hM2 at2 la2 hFa so OO x3 x4 xx isT;rw[e5]
 ext
 intro As nAs;have xAs:=bX (.lst []) nAs;have Oz:upd H4 As (.lst []) As=some (.lst []):=af;rw[e6]
 ext
 refine⟨W,M,_,ms,rfl,xAs.at X0,(vN Q1).trans ((vN Q1).trans ((vN Q1).trans vP)),xAs.at hM4,by have:=wo.ml;omega,λD5 H5 nD5 hD5 x5=>?_⟩;have WU:∀{G:Hp},Kp K As (upd H4 As (.lst [])) G->Ext K H4 G:=λk=>k.ext nAs;have k5:Kp K As (upd H4 As (.lst [])) H5:=x5.kp;have aaz:As≠D5:=aH Oz nD5.1;refine⟨D5,rfl,⟨_,aR.of hD5⟩,dW (xs:=(ms.map some++[none]).map on) (λi σ G=>Xo λ(v6 v7 v8:Option V) (xs:List V)=>V6 (uy σ [some (V.ref p),some (V.ref W),some (V.str d.shown),some (V.ref Fa),some (V.ref x),some (V.ref As),v6,v7,v8]) (G As=some (.lst xs)) (xs.length<=40 * i) (∀v∈xs,wJ K t ms G v) (G D5=some (.lst ((ms.map some++[none]).map on))) (Kp K As (upd H4 As (.lst [])) G)) ⟨none,none,none,[],rfl,x5.at Oz,hU _,λv hv=>absurd hv List.not_mem_nil,hD5,k5⟩ ?_ ?_ ?_⟩
 . rintro i σ G _ ⟨v6,v7,v8,xs,rfl,_,_,_,h5,_⟩;exact aR.of h5
 . rintro i y σ G hy ⟨v6,v7,v8,xs,rfl,hxs,lxs,ask,h5,kG⟩;obtain⟨o,ho,rfl⟩:∃o:Option Int,(∀m,o=some m->m∈ms)/\y=on o:=by
     obtain⟨o,ho,rfl⟩:=gs.mp (ba hy);refine⟨o,λm e=>?_,rfl⟩;rcases da.mp ho with h | h
     . obtain⟨m',h',e'⟩:=gs.mp h;rw[<- e']at e;cases e;exact h'
     . rw[cw.mp h]at e;cases e
   have hi:i<=4:=by
     have:=(bc.mp hy).1;have:=wo.ml;simp at *;omega
   have xG:=WU kG
   ext
   refine⟨_,jQ (xG.at X0) ((vN Q1).trans ((vN Q1).trans vP)),Kd,rfl,_,xG.at aaw,_,xG.at aax,by rw[ab,ab];simp only[List.length_cons,List.length_nil];omega,λp7 np7=>⟨ks++[r * 1000,999999999999],aR.of (by rw[af,bo]),by rw[ax];simp only[List.length_cons,List.length_nil];omega,λD8 k8 nD8 _ mem8 len8=>?_⟩⟩;have k8r:∀k∈k8,0<=k/\k < 10 ^ 12:=λk hk=>by
     rcases da.mp ((mem8 k).mp hk)with h | h
     . exact Je k h
     . simp only[List.mem_cons,List.not_mem_nil,Fm]at h;rcases h with rfl | rfl <;> omega
   have x8:=(bX (.lst (ks.map V.int++[r * 1000,999999999999].map V.int)) np7).trans (bX (.lst (k8.map V.int)) nD8);have XI:upd (upd G p7 (.lst (ks.map V.int++[r * 1000,999999999999].map V.int))) D8 (.lst (k8.map V.int)) D8=some (.lst (k8.map V.int)):=af;have aaA:As≠D8:=aH ((bX (.lst (ks.map V.int++[r * 1000,999999999999].map V.int)) np7).at hxs) nD8.1;have aaB:=x8.at hxs;have h58:=x8.at h5;have aaC:∀v∈xs,wJ K t ms (upd (upd G p7 (.lst (ks.map V.int++[r * 1000,999999999999].map V.int))) D8 (.lst (k8.map V.int))) v:=λv hv=>(ask v hv).ext x8;have k80:=kG.trans x8.kp;rw[ax,List.length_cons,ke]at len8;clear hxs h5 ask kG xG x8 nD8 np7;generalize upd (upd G p7 (.lst (ks.map V.int++[r * 1000,999999999999].map V.int))) D8 (.lst (k8.map V.int))=G8 at *;refine⟨⟨_,aR.of XI⟩,dW (xs:=k8.map V.int) (λj σ G=>Sb λ(v7 v8:Option V) (ys:List V)=>V5 (uy σ [some (V.ref p),some (V.ref W),some (V.str d.shown),some (V.ref Fa),some (V.ref x),some (V.ref As),some (on o),v7,v8]) (G As=some (.lst ys)) (ys.length<=40 * i + j) (∀v∈ys,wJ K t ms G v) (Kp K As G8 G)) ⟨_,_,xs,rfl,aaB,lxs,aaC,Kp.refl⟩ ?_ ?_ ?_⟩
   . rintro j σ G _ ⟨v7,v8,ys,rfl,_,_,_,k⟩;exact aR.of (k.keep _ _ XI aaA.symm)
   . rintro j y σ G Ip ⟨v7,v8,ys,rfl,hys,lys,ask,k⟩;rw[bb]at Ip;obtain⟨n,hn,rfl⟩:=bj.mp Ip;have nr:=k8r n (ba hn);have hj:j < k8.length:=(bc.mp hn).1;have xG:=WU (k80.trans k)
     ext
     refine⟨_,jQ (xG.at X0) ((vN Q1).trans vP),t,H,S,n,o,a,b,c,f,0,10 ^ 12,rfl,la4.fr (Fr.ext xG),wo.ok,by have:=wo.f3;omega,λts G9 pt x9=>?_⟩;rw[e7]
     ext
     have hA9:=x9.at hys;refine⟨.inl ⟨_,aR.of hA9⟩,λT9 nT9=>⟨ys,(Ext.new nT9).at hA9,by omega,?_⟩⟩;have xT:=x9.trans (bX (.tup [V.int n,on o,on (iB n o ts)]) nT9);have hAT:=xT.at hys;have WV:upd (upd G9 T9 (.tup [V.int n,on o,on (iB n o ts)])) As (.lst (ys++[V.ref T9])) As=some (.lst (ys++[V.ref T9])):=af;have PB:∀v∈ys++[V.ref T9],wJ K t ms (upd (upd G9 T9 (.tup [V.int n,on o,on (iB n o ts)])) As (.lst (ys++[V.ref T9]))) v:=λv hv=>by
       refine wJ.upd ?_ hAT;rcases da.mp hv with hv | hv
       . exact(ask v hv).ext xT
       . exact⟨T9,n,o,ts,cw.mp hv,aK,pt,nr,ho⟩
     have DQ:=k.trans (xT.kp.trans (Kp.upd (o:=.lst (ys++[V.ref T9])) hAT));have l10:(ys++[V.ref T9]).length<=40 * i + (j + 1):=by rw[ax,ke];omega
     clear hA9 hAT xT x9 ask hys k lys nT9 xG;generalize upd (upd G9 T9 (.tup [V.int n,on o,on (iB n o ts)])) As (.lst (ys++[V.ref T9]))=G10 at *;generalize ys++[V.ref T9]=zs at *;have WW:=so4.ext (WU (k80.trans DQ));rw[e8]
     ext
     refine rdK WW nr ho pt λG11 mz=>⟨_,rfl,true,rfl,aJ RF ?_⟩
     rw[e9]
     ext
     cases o with
     | some m=>exact aJ (λz=>by cases z) ⟨_,_,zs,rfl,mz.at WV,l10,λv hv=>(PB v hv).ext mz,DQ.trans mz.kp⟩
     | none=>exact bq rfl (rdK (WW.ext mz) nr ho pt λG12 jf=>⟨_,rfl,true,rfl,aJ RF ⟨_,_,zs,rfl,(mz.trans jf).at WV,l10,λv hv=>(PB v hv).ext (mz.trans jf),DQ.trans (mz.trans jf).kp⟩⟩)
   . rintro σ G ⟨v7,v8,ys,rfl,hys,lys,ask,k⟩;rw[ab]at lys;exact⟨_,_,_,ys,rfl,hys,by omega,ask,k.keep _ _ h58 aaz.symm,k80.trans k⟩
 . rintro σ G ⟨v6,v7,v8,xs,rfl,hxs,lxs,ask,h5,kG⟩;rw[e10]
   ext
   refine⟨xs,aR.of hxs,λp3 ys np3 sub=>⟨⟨_,aR.of af⟩,dW (xs:=ys) (λi σ G'=>Sb λ(v6 v7 v8:Option V)=>O2 (uy σ [some (V.ref p),some (V.ref W),some (V.str d.shown),some (V.ref Fa),some (V.ref x),some (V.ref As),v6,v7,v8]) (Ext K (upd G p3 (.lst ys)) G')) ⟨_,_,_,rfl,Ext.refl⟩ ?_ ?_ ?_⟩⟩
   . rintro i σ G' _ ⟨v6,v7,v8,rfl,y⟩;exact aR.of (y.at af)
   . rintro i v σ G' hv ⟨v6,v7,v8,rfl,y⟩;obtain⟨T0,n,o,ts,rfl,N2,pt,nr,ho⟩:=(ask v (sub v (ba hv))).ext ((Ext.new np3).trans y);simp_arith [N2];exact rdK (so4.ext ((WU kG).trans ((Ext.new np3).trans y))) nr ho pt λG3 x3=>⟨_,rfl,true,rfl,aJ RF ⟨_,_,_,rfl,y.trans x3⟩⟩
   . rintro σ G' ⟨v6,v7,v8,rfl,y⟩;rw[e11]
     ext
     have xG:=(WU kG).trans ((Ext.new np3).trans y);refine img (so4.ext xG) λT5 G5 is5 x5=>⟨T5,rfl,d,is5,sh1,sh2,sh3,sh4,bq rfl ⟨_,jQ ((xG.trans x5).at X0) vP,T,rfl,d,(at4.ext (xG.trans x5)).is,sh1,sh2,sh3,sh4,?_⟩⟩
     rw[Dx (rfl:d.shown=d.shown)];exact q G5 (kp4.trans (xG.trans x5).kp)
end
theorem all_mk {l:PySem.W.OpenLaw}{K:Frag}{h:Heap}{fa:Addr}{tE t1 t2 t3 t4:Tok}{aG aP aM az:Addr}(X:K.In h)(G:h.Ns mainGlobals mg)(hfa:mg "law"=some (.ref fa))(B:B K mg aG aP aM az tE t1 t2 t3 t4)
   (L8:CI K "Survey" av) (SG:CI K "Leaf" aM) (Ov:CI K "Inner" az) (Ow:CI K "House" br) (Ox:CI K "Store" aZ) (SV:Od K av)
   (HC:Tn K br) (SC:To K aZ) (iI:uo K aZ) (d1:DI K "is_number" sX) (d2:DI K "is_whole" vj) (d3:DI K "is_whole_from" kW)
   (d4:DI K "is_key" Bs) (d5:DI K "is_stretch" qH) (d6:DI K "is_half" yO) (d7:DI K "is_action" sZ) (d8:DI K "is_note" sj) (d9:DI K "is_rising" tu)
   (d10:DI K "are_wholes" qI) (d11:DI K "is_version" qJ) (d12:DI K "are_versions" mE) (d13:DI K "is_row" Bt) (d14:DI K "are_rows" vm) (d15:DI K "are_notes" tD)
   (d16:DI K "has_word" vn) (d17:DI K "is_leaf_told" iW) (d18:DI K "is_inner_told" kX) (d19:DI K "is_plan" sf) (d20:DI K "is_rule" yN) (d21:DI K "are_rising_from" jj)
   (d22:DI K "_law_cell_at" mG) (d23:DI K "_law_well" tG) (d24:DI K "_law_draw" tH) (d25:DI K "_law_value" qO) (d26:DI K "_law_number" o8) (d27:DI K "_law_action" gP)
   (d28:DI K "_law_rule" fQ) (d29:DI K "_law_rows" fR) (d30:DI K "_law_tray" eY) (d31:DI K "_law_room" bH) (d32:DI K "_law_all" j6) (d33:DI K "_law_told" jo)
   (d34:DI K "_law_world" bA) (d35:DI K "has_key" yP) (d36:DI K "have_common" oU) (d37:DI K "are_beneath" o6) (d38:DI K "is_tray" yR) (d39:DI K "are_within" qN)
   (d40:DI K "is_row_beneath" jN) (d41:MI K av "__init__" "Survey.__init__" bT) (d42:MI K av "may_have" "Survey.may_have" jn) (d43:MI K av "has_floors" "Survey.has_floors" iA) (d44:MI K av "is_leaf_sound" "Survey.is_leaf_sound" gc) (d45:MI K av "is_inner_sound" "Survey.is_inner_sound" bN)
   (d46:MI K av "await_children" "Survey.await_children" cj) (d47:MI K av "takes" "Survey.takes" cD) (d48:DI K "is_frame" vA) (d49:DI K "image_fault" o7) (d50:DI K "own_rows" vq) (d51:MI K aM "__init__" "Leaf.__init__" kY)
   (d52:MI K az "__init__" "Inner.__init__" jK) (d53:DI K "room_made" jl) (d54:DI K "top_of" qK) (d55:MI K br "__init__" "House.__init__" jL) (d56:DI K "new_house" tF) (d57:MI K aZ "__init__" "Store.__init__" jM)
   (d58:DI K "store_from" gb) (d59:DI K "store_of" vB) (d60:DI K "half_acts" mD) (d61:DI K "does" Lf) (d62:DW K "value_of" "at" vo) (d63:DI K "up_to" EV)
   (d64:DI K "touching" vp) (d65:DW K "seen" "at" Lg) (d66:DI K "child_place" oV) (d67:DI K "versions_in" oX) (d68:DI K "rooms_to" vt) (d69:DI K "told_value" fZ)
   (d70:DI K "check_key" sY) (d71:DI K "check_mark" qL) (d72:DW K "read_key" "at" vz) (d73:MW K aZ "read" "Store.read" "at" qM) (d74:DI K "_law_acts" mH) (d75:DI K "_law_alike" qP)
   (d76:DI K "_law_view" cT) (d77:DI K "room_told" jk) (d78:MI K aZ "marks" "Store.marks" oY) (d79:DI K "_law_ats" vC) (d80:DI K "stretches" mF) (d81:DI K "children_of" oW)
   (d82:DI K "all_rooms" fP) (d83:DI K "roll_of" yQ) (d84:MI K aZ "image" "Store.image" oZ) (d85:DI K "_law_right" bF) (d86:DI K "law" O9):
   ∃fd:FuncData,(∀(s:Shared) (v:Value),BindsTo s fd ⟨[v],[]⟩ [("_law_script",v)])/\∀base:Heap,K.In base->base.Ns mainGlobals mg->dH l.prog w K mg base oH 14 fa fd ["_law_script"] (F4 K):=by
 obtain⟨f,fd,a,F⟩:=d86;cases hfa.symm.trans (mI X G a);refine⟨fd,λs v=>by obtain⟨_,_,_,_,_,_,_,_,_,rfl,_⟩:=F.ex;exact .of_eq rfl,λbase _ _=>?_⟩;have p:=@DI.c l.prog w K mg base h X G;have aV:=p d1 λF=>zP B F;have bM:=p d2 λF=>Bv B F aV;have bD:=p d3 λF=>sq B F aV;have jO:=p d4 λF=>HV B F bM;have j9:=p d5 λF=>wZ B F bM;have nK:=p d6 λF=>DE B F aV;have mK:=p d7 λF=>zS B F nK;have sr:=p d8 λF=>DF B F bD j9 mK;have bV:=p d9 λF=>zT B F;have dM:=p d10 λF=>w5 B F aV;have kg:=p d11 λF=>w9 B F aV bD;have iY:=p d12 λF=>t8 B F kg bV;have vH:=p d13 λF=>HX B F jO iY;have pO:=p d14 λF=>BB B F vH bV;have mO:=p d15 λF=>zU B F sr;have gC:=p d16 λF=>BE B F;have i6:=p d17 λF=>ud B F gC aV pO;have iu:=p d18 λF=>su B F gC aV dM mO;have sy:=p d19 λF=>DJ B F;have iL:=p d20 λF=>DM B F bM sy;have gj:=p d21 λF=>pP B F dM bV;have jb:=p d22 λF=>ue B F;have nj:=p d23 λF=>zV B F;have ai:=p d24 λF=>zX B F;have kj:=p d25 λF=>xg B F ai;have fH:=p d26 λF=>vI B F ai;have jy:=p d27 λF=>vK B F ai fH;have mP:=p d28 λF=>zY B F ai;have cU:=p d29 λF=>z7 B F ai kj;have cV:=p d30 λF=>Aa B F ai jy;have gZ:=DI.r (P:=l.prog) (w:=w) (base:=base) X G d31 λF b kp m=>Ab B F (b:=b) (kp:=kp) (m:=m) (ai:=ai) (cU:=cU) (cV:=cV);have iZ:=DI.r (P:=l.prog) (w:=w) (base:=base) X G d32 λF b kp m=>BH B F (b:=b) (kp:=kp) (m:=m);have mQ:=p d33 λF=>Ac B F;have kO:=p d34 λF=>xw B F ai mP gZ iZ mQ;have iK:=p d35 λF=>DU B F;have jz:=p d36 λF=>vU B F;have dX:=p d37 λF=>vV B F jz;have sD:=p d38 λF=>DV B F dX;have kB:=p d39 λF=>xy B F;have gG:=p d40 λF=>qW B F iK;have vY:=MI.Wa (P:=l.prog) (w:=w) (base:=base) X G d41 L8 λF=>pR B F SV;have fL:=MI.c (P:=l.prog) (w:=w) (mg:=mg) (base:=base) d42 λF=>pS B F SV bM;have fc:=MI.c (P:=l.prog) (w:=w) (mg:=mg) (base:=base) d43 λF=>mS B F SV;have dF:=MI.c (P:=l.prog) (w:=w) (mg:=mg) (base:=base) d44 λF=>jS B F SV gG;have cX:=MI.c (P:=l.prog) (w:=w) (mg:=mg) (base:=base) d45 λF=>jA B F SV bV kB sD dX;have cY:=MI.c (P:=l.prog) (w:=w) (mg:=mg) (base:=base) d46 λF=>jB B F SV;have iw:=MI.c (P:=l.prog) (w:=w) (mg:=mg) (base:=base) d47 λF=>uf B F SV i6 iu fL dF fc cX cY;have pT:=p d48 λF=>BU B F iL bD gj;have jC:=p d49 λF=>vX B F SV pT vY iw;have gH:=p d50 λF=>BV B F;have sH:=MI.Wa (P:=l.prog) (w:=w) (base:=base) X G d51 SG λF=>sG B F;have Ah:=MI.Wa (P:=l.prog) (w:=w) (base:=base) X G d52 Ov λF=>qZ B F;have mU:=p d53 λF=>Ag B F gH sH Ah;have wk:=p d54 λF=>Ig B F mU;have nX:=MI.Wa (P:=l.prog) (w:=w) (base:=base) X G d55 Ow λF=>rj B F HC;have mW:=p d56 λF=>Ai B F nX sH;have Ak:=MI.Wa (P:=l.prog) (w:=w) (base:=base) X G d57 Ox λF=>rq B F SC iL mW;have kF:=p d58 λF=>xC B F SC Ak nX wk;have pZ:=p d59 λF=>BX B F jC kF;have mX:=p d60 λF=>Al B F;have DZ:=p d61 λF=>Om B F mX;have mY:=DW.kc (P:=l.prog) (w:=w) (base:=base) X G d62 λF=>BY B F;have Am:=p d63 λF=>LS B F;have pW:=p d64 λF=>BZ B F iK;have Ao:=DW.kc (P:=l.prog) (w:=w) (base:=base) X G d65 λF=>Oo B F Am pW DZ;have jD:=p d66 λF=>wu B F;have jE:=p d67 λF=>wz B F;have pX:=p d68 λF=>B5 B F jD;have kJ:=p d69 λF=>xE B F pX jE mY Ao;have mZ:=p d70 λF=>Aq B F jO;have kI:=p d71 λF=>xJ B F HC aV;have jr:=DW.kc (P:=l.prog) (w:=w) (base:=base) X G d72 λF=>B9 B F HC mZ kI kJ;have gR:=MW.kc (P:=l.prog) (w:=w) (mg:=mg) (base:=base) d73 λF=>pq B F SC jr;have jG:=MW.dc (P:=l.prog) (w:=w) (mg:=mg) (base:=base) d73 λF=>pq B F SC jr;have cW:=p d74 λF=>Ar B F;have gw:=p d75 λF=>xK B F;have g8:=DI.r (P:=l.prog) (w:=w) (base:=base) X G d76 λF b kp m=>Au B F (b:=b) (kp:=kp) (m:=m) (cW:=cW);have ng:=p d77 λF=>Av B F gH;have ja:=MI.c (P:=l.prog) (w:=w) (mg:=mg) (base:=base) d78 λF=>wF B F SC HC;have qc:=p d79 λF=>Cb B F;have nq:=p d80 λF=>Ax B F;have jF:=p d81 λF=>wH B F nq;have nc:=p d82 λF=>Aw B F jF;have sO:=p d83 λF=>Eb B F nc ng;have gq:=MI.c (P:=l.prog) (w:=w) (mg:=mg) (base:=base) d84 λF=>wG B F SC HC sO ja;have kM:=p d85 λF=>xO B F iI kO ai pZ gq qc g8 gw gR jG;exact SE B F jb nj kM
theorem walk {l:PySem.W.OpenLaw}{q:Program}{loose:List Str}{XP:(Str->Option Value)->Heap->Prop}{YP:World->Heap->Prop}{d:DefRec}{K:Params->Frag}(hn:l.most=some 63)(UT:d.params.defaults=[])
   (hY:∀(w:World) (h:Heap),YP w h->(K w.params).In h)
   (F:∀(w:World) (mg:Str->Option Value) (fa:Addr) (h:Heap),(K w.params).In h->h.Ns mainGlobals mg->mg d.name=some (.ref fa)->
     ∃fd:FuncData,(∀(s:Shared) (u:Value),BindsTo s fd ⟨[u],[]⟩ [("_law_script",u)])/\∀base:Heap,(K w.params).In base->base.Ns mainGlobals mg->dH l.prog w (K w.params) mg base oH 14 fa fd ["_law_script"] (F4 (K w.params))):
   PySem.W.WalkO q loose XP YP l.row.toRowW d [] (λf vs=>PySem.call f vs):=
 L2.M3 (n:=63) (k:=14) (x:="_law_script") (CX:=λ_=>oH) (sp:=λw=>F4 (K w.params)) hn RF UT ⟨rfl,by decide,by decide,rfl⟩ hY F (λ_ _ a ns hl ho hS=>⟨a,ns,rfl,hS,hl,ho,λ_=>rfl⟩) λ_ _ _ _ _ z=>z
end eO
open PySem PySem.W PyProof.Rows
set_option maxRecDepth 100000 in
set_option maxHeartbeats 0 in
theorem PySem.Challenge.cw_notefall_k51_read_wherever_notes_lie_holds : PySem.Challenge.rw_notefall_k51_read_wherever_notes_lie.Holds := by
 w_on;refine holds_law eO.Tp λsaid=>?_
 refine holds_open (q:=eO.hQ) (loose:=eO.AD) (Xt:=eO.F6 eO.hQ eO.Ec) (XP:=XL eO.hQ eO.Ec) (Yf:=eO.WY) (Ya:=eO.WZ eO.hK) (YP:=Hook.says (kHook eO.hK eO.Oz eO.hE)) (N:=13528) eO.hl (Hook.of (kHook eO.hK eO.Oz eO.hE)) (Hook.keeps (kHook eO.hK eO.Oz eO.hE)) (λs e=>xl_of s (Bool.and_eq_true_iff.mp e).1) XL.keeps (by rfl) (by rfl) (by rfl) (λs e=>recFacts_of (Bool.and_eq_true_iff.mp e).2) (by rfl) (by first | assumption | decide +kernel) Q1 ⟨rfl,rfl,rfl,rfl,rfl,by decide +kernel⟩ ?hw ?hc
 case hw=>w_witness2
 case hc=>
 k_fill
 refine eO.walk (l:=PySem.Challenge.rw_notefall_k51_read_wherever_notes_lie) rfl rfl (λw h Y=>PySem.W.kIn_of Y) ?F
 case F=>
   intro w mg fa h KX G hmg
   refine' eO.all_mk KX G hmg ?_ ?_ ?_ ?_ ?_ ?_ ?_ ?_ ?_ ?_ ?_ ?_ ?_ ?_ ?_ ?_ ?_ ?_ ?_ ?_ ?_ ?_ ?_ ?_ ?_ ?_ ?_ ?_ ?_ ?_ ?_ ?_ ?_ ?_ ?_ ?_ ?_ ?_ ?_ ?_ ?_ ?_ ?_ ?_ ?_ ?_ ?_ ?_ ?_ ?_ ?_ ?_ ?_ ?_ ?_ ?_ ?_ ?_ ?_ ?_ ?_ ?_ ?_ ?_ ?_ ?_ ?_ ?_ ?_ ?_ ?_ ?_ ?_ ?_ ?_ ?_ ?_ ?_ ?_ ?_ ?_ ?_ ?_ ?_ ?_ ?_ ?_ ?_ ?_ ?_ ?_ ?_ ?_ ?_ ?_ ?_
   rotate_left 12
   all_goals repeat' first | k_is | kit_is | exact mI KX G (by k_is) | exact PySem.W.mg_none_of KX G (by k_is) | refine L2.di ?_ ?_ ?_ ?_ | refine L2.mi ?_ ?_ ?_ ?_ ?_ | refine L2.dw ?_ ?_ ?_ ?_ ?_ ?_ ?_ | refine L2.mw ?_ ?_ ?_ ?_ ?_ ?_ ?_ ?_ | exact L2.M7 (by k_is) RR rfl | refine L2.na_ ?_ | rfl | decide +kernel | constructor
