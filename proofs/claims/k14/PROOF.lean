import PyProof.Rows.All
import Wide.All
import OpenK.AllK
import Wide.FinOn
import Lean
import PyProof.EqAt
import PyProof.EqKinds
import PyProof.TupleCall
import PyProof.EnumFor
import PyProof.EnumMake
import PyProof.EnumStmt
import PyProof.WalksEnum
import PyProof.NeKinds
import PyProof.CompFree
import PyProof.CompMap
import PyProof.Rows.Range3
import PyProof.Rows.ChunkEnd
import PyProof.Rows.StrCase
import PyProof.Rows.StrIndexOr
import PyProof.StrLawsIn
import PyProof.StrLawsIdx
import PyProof.SliceStr2
import PyProof.StrWalks
import PyProof.StationsW
import PyProof.ExcClass3
import PyProof.RulesAs
import PyProof.NsDelKeeps
import PyProof.ExcInit
import PyProof.ExcArgsOwn
import PyProof.InstStore
import PyProof.InstLoad
import PyProof.ExcBaseAll.ValueError
import PyProof.InstStoreFacts
import PyProof.ExcAttrAll.ValueError
import PyProof.Rows.StrJoinMade
import PyProof.ConsumeWalk
import PyProof.DictIter
import PyProof.DictWalks
import PyProof.Rows.SortStr
import PyProof.MeetsSeq
import PyProof.Rows.StrRev
import PyProof.StrOps2
import PyProof.Rows.RuleIs
import PyProof.ExcClass2
import PyProof.SumAny
import PyProof.Rows.FStrParts
import PyProof.Rows.StrNews2
import PyProof.Rows.StrWeight2
import PyProof.CallStr
import KE.KLam
import KE.KNestM
import PyProof.Conv_int_bool
import KE.KIntText
import PyProof.StrReplace2
import PyProof.Rows.StrSplitMax
import PyProof.ZipIter
import PyProof.Rows.MatchSeqLen
import KE.KDictList
import KE.KDictOf
import PyProof.AttrMissHeap
import PyProof.Rows.SortShell
import PyProof.Rows.MinMaxN
import PySem.Challenge.RW_findcourt_k14_pieces_as_bytes
set_option Elab.async false
set_option linter.all false
set_option maxRecDepth 100000
abbrev n9:=PySem.W.Frag
def l9:=@Nat.le_refl
def QS:=@Nat.le_succ_of_le
def Ad:=@Nat.le_trans
def Qbt:=@Sum.inl.inj
def BG:=@decide_eq_false
def QR:=@beq_eq_false_iff_ne
def QQ:=@Sum.inr.inj
def XF:=@PySem.Paired.length
def Ab:=@Option.some.inj
def O9:=@PySem.Heap.lt_size
def U4:=@Nat.lt_of_lt_of_le
def Di:=@Nat.lt_irrefl
def M7:=@Nat.ne_of_lt
def LM:=@List.mem_range
def Dh:=@Nat.le_of_lt
def VH:=@List.filterMap_cons
def C0:=@List.mem_cons_self
def D5:=@List.mem_cons_of_mem
def E8:=@List.mem_cons
def Y4:=@Ne.symm
def U3:=@List.mem_append
def Pt:=@List.mem_append_left
def D9:=@List.getElem?_eq_some_iff
def Vo:=@List.getElem?_set_self
def Za:=@List.getElem?_set_ne
def U2:=@PySem.wpAny_mono
def Ps:=@PySem.wpAny_Name
def Vl:=@PySem.wpAny_loadName_local
def Vk:=@PySem.wpAny_Constant_int
def Vj:=@PySem.Calls.Name_function_global
def YZ:=@PySem.Calls.loadGlobal_global
def Fe:=@PySem.wpAny_truthy_bool
def CD:=@Array.length_toList
def Pr:=@PySem.wpAny_execs_nil
def Vi:=@PySem.wpAny_execs_cons
def x6:=@PySem.wpAny_bind
def Ix:=@PySem.wpAny_holding
def Vh:=@PySem.wpAny_standAt
def GL:=@PySem.wpAny_passesOwn
def Ac:=@Bool.false_ne_true
def Iw:=@Nat.ne_of_gt
def J3:=@PySem.wpAny_pure
def Vg:=@PySem.wpAny_pyIter_list
def Q2:=@PySem.Heap.get?_push_of_some
def W8:=@PySem.Heap.get?_push_size
def Vf:=@PyProof.Rows.callWith_type1
def YY:=@List.mem_filterMap
def BV:=@List.mem_append_right
def x5:=@Nat.zero_le
def YX:=@Int.fdiv_eq_ediv_of_nonneg
def Eo:=@Bool.eq_iff_iff
def T6:=@PySem.sizeLine_eq
def D8:=@List.size_toArray
def Ve:=@PySem.W.plainGet_of
def LL:=@beq_iff_eq
def i5:=@List.length_map
def Pq:=@PySem.Heap.size_push
def Iu:=@Nat.le_of_eq
def GK:=@Nat.lt_succ_self
def CC:=@PySem.W.kia_one
def YW:=@PySem.W.kitx_list
def YV:=@PySem.W.kitx_dict
def Pp:=@PySem.Calls.spliced_nil
def Fd:=@PySem.Calls.spliced_cons
def LK:=@PySem.codeAny_mono
def Is:=@PySem.wpAny_Call_Name_kw
def Po:=@PySem.W.callWith_K
def YU:=@PySem.W.callWith_K0
def YT:=@PySem.W.methodCall_KW
def LJ:=@Nat.le_succ
def Y3:=@List.nodup_cons
def Pn:=@List.of_mem_zip
def Vd:=@PySem.W.cellsFrom_some
def GJ:=@Option.isSome_iff_exists
def I9:=@List.length_take
def En:=@PySem.mem_of_lookup
def Em:=@List.getElem?_append_right
def GI:=@List.getElem?_append_left
def u8:=@List.getElem?_map
def Ir:=@List.take_sublist
def E7:=@List.mem_of_getElem?
def l0:=@List.length_append
def Pm:=@List.length_replicate
def YS:=@PySem.W.codeRec_of
def YR:=@PySem.wpAny_newFunctionEnv_cells
def GG:=@List.length_drop
def Pk:=@PySem.typeIs_str
def Pj:=@PySem.Calls.callWith_builtin
def Vc:=@PySem.Calls.evalArgs_plain
def Aa:=@List.length_singleton
def Iq:=@Array.getElem?_toList
def R8:=@decide_eq_true
def w9:=@PySem.W.mg_of
def LI:=@Nat.lt_of_le_of_lt
def AV:=@List.lookup_cons
def Q0:=@Bool.and_eq_true
def GF:=@List.all_eq_true
def A2:=@of_decide_eq_true
def Vb:=@Bool.or_eq_true
def D4:=@List.mem_singleton
def VP:=@PySem.wpAny_comprehension_free
def JY:=@PySem.SeqAt.EqAt.same
def NG:=@PySem.Around.in1_units
def u9:=@List.getElem?_eq_getElem
def y9:=@List.mem_map
def NF:=@List.ext_getElem?
def CK:=@List.getElem?_take
def Bk:=@List.getElem?_drop
def CJ:=@List.getElem?_eq_none
def M6:=@List.take_zero
def NE:=@PySem.StrLaws.found_one
def JX:=@List.getD_eq_getElem?_getD
def Bj:=@List.mem_iff_getElem?
def BK:=@List.getElem_mem
def JW:=@List.flatten_cons
def o5:=@List.append_assoc
def ND:=@Nat.mul_comm
def q9:=@List.take_add_one
def DD:=@Option.getD_some
def VO:=@Option.toList_some
def JV:=@List.sum_append
def K9:=@List.sum_cons
def JU:=@Nat.lt_succ_of_lt
def B7:=@List.take_length
def EU:=@List.find?_cons
def NC:=@List.any_cons
def JT:=@Option.map_some
def VN:=@Option.isSome_map
def D3:=@Option.map_eq_some_iff
def JS:=@PySem.tupleKind_room_in1
def AF:=@List.nodup_nil
def ET:=@PySem.call_meetsIn
def NB:=@PySem.F.slot_dict_get
def VM:=@PySem.F.entry_dict_get
def VL:=@PySem.F.args_dict_get_3
def JR:=@PySem.F.plainAttrs_dict
def VJ:=@PySem.F.plain_list_iadd
def VI:=@List.getElem?_eq_none_iff
def j4:=@PyProof.Rows.wpS_pure
def j8:=@PyProof.Rows.wpS_bind
def Bi:=@PyProof.Rows.wpS_get
def DC:=@PyProof.Rows.wpS_lift
def NA:=@Array.getElem?_eq_getElem
def S9:=@PyProof.Rows.wpS_forRange
def Hb:=@Nat.add_sub_cancel
def Nz:=@Nat.max_eq_right
def Ha:=@Nat.min_eq_left
def BJ:=@PyProof.Rows.KeyOrd.kle_trans
def CI:=@List.perm_append_comm
def AE:=@List.drop_eq_getElem_cons
def Ny:=@List.Perm.append_left
def AD:=@List.pairwise_append
def GZ:=@List.pairwise_singleton
def DB:=@List.pairwise_cons
def Bh:=@List.take_append_drop
def VG:=@List.Perm.append_right
def Z0:=@List.Perm.refl
def VF:=@List.mem_of_mem_drop
def DA:=@PyProof.Rows.wpS_modify
def GY:=@List.pairwise_iff_getElem
def CH:=@PyProof.Rows.KeyOrd.kle_refl
def Y0:=@List.take_of_length_le
def Nw:=@Array.toList_push
def V4:=@Array.toList_append
def GX:=@List.drop_eq_nil_of_le
def ES:=@PySem.wpAny_rule
def CG:=@beq_self_eq_true
def VE:=@List.reverse_append
def JQ:=@Array.toList_reverse
def VD:=@List.mem_of_mem_take
def Dz:=@Nat.zero_add
def VC:=@Array.toList_setIfInBounds
def JP:=@List.drop_drop
def VB:=@Array.size_extract
def JO:=@Nat.sub_self
def Nv:=@Nat.add_zero
def Nu:=@Array.perm_iff_toList_perm
def Nt:=@Array.Perm.refl
def Nr:=@PySem.Heap.get?_push_ne
def VA:=@PySem.Calls.call_function_entry
def Vz:=@PySem.F.slot_dict_values
def Dy:=@List.eq_nil_of_length_eq_zero
def GV:=@Nat.succ.inj
def Dx:=@List.cons.inj
def Vy:=@PySem.F.slot_dict_itemiterator_iter
def Vx:=@PySem.F.slot_dict_items
def Dw:=@List.nodup_append
def Dv:=@List.foldl_append
def n4:=@List.map_append
def Nq:=@List.cons_lt_cons_iff
def o8:=@PySem.PassesOwn.never
def A9:=@PySem.boot_len
def l8:=@and_self
def GU:=@of_decide_eq_false
def ER:=@Bool.eq_false_iff
def B6:=@PySem.F.plainAttrs_list
def N0:=@PySem.F.slot_list_append
def M8:=@PySem.F.type_list_append
def EQ:=@PySem.F.plainAttrs_str
def K8:=@List.map_map
def Af:=@List.map_congr_left
def CF:=@Classical.byContradiction
def JN:=@Option.map_eq_none_iff
def Vw:=@Bool.or_eq_false_iff
def Np:=@List.map_drop
def BH:=@List.not_lt
def Vv:=@PyProof.Rows.boot_list
def GR:=@List.flatMap_cons
def JM:=@List.exists_cons_of_ne_nil
def GQ:=@List.mem_flatMap
def Vu:=@List.length_zipWith
def Vt:=@List.getElem?_zipWith
def Vs:=@List.flatten_append
def JL:=@List.length_pos_iff
def Bg:=@PySem.F.slot_list_extend
def Bf:=@PySem.F.type_list_extend
def No:=@Int.natCast_mul
def Vr:=@Nat.pos_of_ne_zero
def EO:=@List.drop_of_length_le
def Nn:=@PySem.F.slot_str_join
def Nm:=@PySem.F.type_str_join
def Vq:=@List.length_flatMap
def JK:=@List.pairwise_map
def Nl:=@List.flatMap_append
def JJ:=@List.map_take
def GO:=@List.map_id'
def Nk:=@List.nil_lt_cons
def V3:=@Int.emod_nonneg
def V2:=@Int.emod_lt_of_pos
def Vp:=@PySem.F.slot_str_index
def Vn:=@PySem.F.type_str_index
def Vm:=@List.filter_append
def W5:=@PySem.W.mg_none_of
local macro_rules
 | `(tactic|omega)=> `(tactic|first|lia|omega (config:={}))
namespace L2
open PySem
theorem Ez{M:Model}{Γ:Ctx}{p:Pos}{t:Sem Fin}{fs:List Frame}{s s':Shared}{e:End}(h:Runs M Γ p t fs s e s'):s.toks<=s'.toks:=by
 induction h<;>first
  |exact l9 _
  |assumption
  |omega
  |(simp only[Shared.setGen] at*;omega)
theorem Me{M:Model}{Γ:Ctx}{p:Pos}{g:Nat}{r:Resume}{s s':Shared}{res:GenResult}(h:Wakes M Γ p g r s res s'):s.toks<=s'.toks:=by
 unfold Wakes at h
 split at h
 ·exact h.elim
 ·split at h
  ·obtain⟨e₁,s₁,h1,_,_,rfl⟩:=h
   exact(show (s.setGen g .running).toks<=s₁.toks from Ez h1)
  ·obtain⟨_,rfl⟩:=h;exact l9 _
  ·obtain⟨_,rfl⟩:=h;exact l9 _
 ·obtain⟨e₁,s₁,h1,_,_,rfl⟩:=h
  exact(show (s.setGen g .running).toks<=s₁.toks from Ez h1)
 ·obtain⟨_,rfl⟩:=h;exact l9 _
 ·obtain⟨_,rfl⟩:=h;exact l9 _
theorem Zf{α:Type}{M:Model}{Γ:Ctx}(n:Nat)(t:Sem α){Q:α->Pos->Shared->Prop}{E:Value->Pos->Shared->Prop}:∀{p:Pos} {s:Shared},n<=s.toks->Sem.wp M Γ t Q E p s->
  Sem.wp M Γ t (fun a p' s'=>n<=s'.toks/\Q a p' s') (fun e p' s'=>n<=s'.toks/\E e p' s') p s:=by
 induction t with
 |pure a=>intro p s z h;rw[Sem.wp] at h⊢;exact⟨z,h⟩
 |raise e=>intro p s z h;rw[Sem.wp] at h⊢;exact⟨z,h⟩
 |load a _ k ih=>intro p s z h;rw[Sem.wp] at h⊢;obtain⟨o,e,h⟩:=h;exact⟨o,e,ih _ z h⟩
 |update a _ f k ih=>intro p s z h;rw[Sem.wp] at h⊢;exact⟨h.1,ih _ (by exact z) h.2⟩
 |fresh k ih=>intro p s z h;rw[Sem.wp] at h⊢;exact ih _ (QS z) h
 |choose src m k ih=>intro p s z h;rw[Sem.wp] at h⊢;exact⟨h.1,ih _ (by exact z) h.2⟩
 |call c hd g l k ih=>
  intro p s z h
  rw[Sem.wp] at h⊢
  obtain⟨r,s1,h1,h2⟩:=h
  exact⟨r,s1,h1,ih _ (Ad z (Ez h1)) h2⟩
 |genState g k ih=>intro p s z h;rw[Sem.wp] at h⊢;obtain⟨st,e,h⟩:=h;exact⟨st,e,ih _ z h⟩
 |resume g r l k ih=>
  intro p s z h
  rw[Sem.wp] at h⊢
  obtain⟨res,s1,h1,h2⟩:=h
  exact⟨res,s1,h1,ih _ (Ad z (Me h1)) h2⟩
 |_=>first
  |(intro p s z h;rw[Sem.wp] at h;exact h.elim)
  |(rename_i ih;intro p s z h;rw[Sem.wp] at h⊢;exact ih _ (by exact z) h)
theorem W6{α:Type}{M:Model}{A:Around}{t:Sem α}{Q:α->Shared->Prop}{E:Value->Shared->Prop}{s:Shared}(z:0<s.toks)
  (h:wpAny M A t (fun a s'=>0<s'.toks->Q a s') (fun e s'=>0<s'.toks->E e s') s):wpAny M A t Q E s:=fun Γ p hΓ=>
 Sem.wp_mono M Γ t (fun _ _ _ ⟨z',q⟩=>q z') (fun _ _ _ ⟨z',q⟩=>q z') p s (Zf 1 t z (h Γ p hΓ))
end L2
namespace L2
open PySem PySem.Spec PyProof.Rows
abbrev D7:=Sum Int Str
def Gf:D7->Value->Bool
 | .inl k,v=>Value.isInt k v
 | .inr x,v=>Value.isStrOf x v
def Qdh(w:World):D7->Int
 | .inl k=>hashInt k
 | .inr x=>hashStr w x
theorem J9:∀{k:D7} {v:Value},Gf k v=true->(∃i t,k=Sum.inl i/\v=Value.int i t)\/(∃x t,k=Sum.inr x/\v=Value.str x t)
 | .inl i,v,h=>by
  obtain⟨t,e⟩:=Value.isInt_shape (k:=i) (v:=v) h
  exact .inl ⟨i,t,rfl,e⟩
 | .inr x,v,h=>by
  obtain⟨t,e⟩:=Value.isStrOf_shape (x:=x) (v:=v) h
  exact .inr ⟨x,t,rfl,e⟩
theorem Qq(i:Int)(t:Tok):Gf (.inl i) (.int i t)=true:=by simp [Gf,Value.isInt]
theorem Qo(x:Str)(t:Tok):Gf (.inr x) (.str x t)=true:=by simp [Gf,Value.isStrOf]
theorem Qa7(a b:Int):decide ((Sum.inl a:D7)=Sum.inl b)=(a==b):=by
 by_cases e:a=b
 ·subst e;simp
 ·have h:¬(Sum.inl a:D7)=Sum.inl b:=fun q=>e (Qbt q)
  rw[BG h]
  exact(QR.mpr e).symm
theorem Qa4(a b:Str):decide ((Sum.inr a:D7)=Sum.inr b)=decide (a=b):=by
 by_cases e:a=b
 ·subst e;simp
 ·have h:¬(Sum.inr a:D7)=Sum.inr b:=fun q=>e (QQ q)
  rw[BG h,BG e]
theorem Qa6(a:Int)(b:Str):decide ((Sum.inl a:D7)=Sum.inr b)=false:=BG (fun q=>nomatch q)
theorem Qa5(a:Str)(b:Int):decide ((Sum.inr a:D7)=Sum.inl b)=false:=BG (fun q=>nomatch q)
def A3(prog:Program)(w:World):PySem.KeyKind prog w D7 where
 is:=Gf
 hash:=Qdh w
 inj:=fun v a b ha hb=>by
  rcases J9 ha with ⟨i,t,rfl,rfl⟩|⟨x,t,rfl,rfl⟩
  ·rcases J9 hb with ⟨j,u,rfl,e⟩|⟨y,u,rfl,e⟩
   ·injection e with e1 _;rw[e1]
   ·exact nomatch e
  ·rcases J9 hb with ⟨j,u,rfl,e⟩|⟨y,u,rfl,e⟩
   ·exact nomatch e
   ·injection e with e1 _;rw[e1]
 byValue:=fun k v h=>by
  rcases J9 h with ⟨i,t,rfl,rfl⟩|⟨x,t,rfl,rfl⟩<;>rfl
 pyHash:=fun hv h=>by
  rcases J9 hv with ⟨i,t,rfl,rfl⟩|⟨x,t,rfl,rfl⟩
  ·exact wpAny_pyHash_int h
  ·exact wpAny_pyHash_str h
 eqBool:=fun hu hv h=>by
  rcases J9 hu with ⟨i,t,rfl,rfl⟩|⟨x,t,rfl,rfl⟩
  ·rcases J9 hv with ⟨j,u,rfl,rfl⟩|⟨y,u,rfl,rfl⟩
   ·rw[Qa7] at h;exact wpAny_eqBool_int h
   ·rw[Qa6] at h;exact SeqAt.EqAt.int_str i t y u _ _ _ _ h
  ·rcases J9 hv with ⟨j,u,rfl,rfl⟩|⟨y,u,rfl,rfl⟩
   ·rw[Qa5] at h;exact SeqAt.EqAt.str_int x t j u _ _ _ _ h
   ·rw[Qa4] at h;exact wpAny_eqBool_str h
 «strs»:=fun k x t v h=>by
  rcases J9 h with ⟨i,u,rfl,e⟩|⟨y,u,rfl,e⟩
  ·exact nomatch e
  ·injection e with e1 _
   subst e1
   cases v<;>rfl
theorem MN(prog:Program)(w:World)(k:D7)(v:Value):(A3 prog w).is k v=Gf k v:=rfl
theorem Ld(prog:Program)(w:World)(i:Int)(t:Tok):(A3 prog w).is (.inl i) (.int i t)=true:=Qq i t
theorem Lc(prog:Program)(w:World)(x:Str)(t:Tok):(A3 prog w).is (.inr x) (.str x t)=true:=Qo x t
inductive V where
 |non|bl (b:Bool)|int (i:Int)|str (x:Str)|byt (b:Array UInt8)|flt (b:UInt64)|ref (a:Addr)|ty (n:String)
 deriving DecidableEq
def RelV:V->Value->Prop
 | .non,u=>u=Value.none
 | .bl b,u=>u=Value.bool b
 | .int i,u=>∃t,u=Value.int i t
 | .str x,u=>∃t,u=Value.str x t
 | .byt b,u=>∃t,u=Value.bytes b t
 | .flt b,u=>∃t,u=Value.float b t
 | .ref a,u=>u=Value.ref a
 | .ty n,u=>u=Value.type n
abbrev y7:List V->List Value->Prop:=Paired RelV
theorem y7.length{xs:List V}{us:List Value}(r:y7 xs us):xs.length=us.length:=XF r
theorem y7.get:∀{xs:List V} {us:List Value} {i:Nat} {x:V},y7 xs us->xs[i]? =some x->∃u,us[i]? =some u/\RelV x u
 |_,_,_,_, .nil,e=>by simp at e
 |_,_,0,_, .cons r _,e=>by simp at e;subst e;exact⟨_,rfl,r⟩
 |_,_,i+1,x, .cons _ t,e=>by
  obtain⟨u,h1,h2⟩:=y7.get (i:=i) (x:=x) t (by simpa using e)
  exact⟨u,by simpa using h1,h2⟩
theorem y7.set{x:V}{u:Value}(r:RelV x u):∀{xs:List V} {us:List Value} (i:Nat),y7 xs us->y7 (xs.set i x) (us.set i u)
 |_,_,_, .nil=> .nil
 |_,_,0, .cons _ t=> .cons r t
 |_,_,i+1, .cons q t=> .cons q (y7.set r i t)
theorem y7.append:∀{xs ys:List V} {us ws:List Value},y7 xs us->y7 ys ws->y7 (xs++ys) (us++ws)
 |_,_,_,_, .nil,s=>s
 |_,_,_,_, .cons r t,s=> .cons r (y7.append t s)
theorem y7.take:∀{xs:List V} {us:List Value} (n:Nat),y7 xs us->y7 (xs.take n) (us.take n)
 |_,_,0,_=> .nil
 |_,_,_+1, .nil=> .nil
 |_,_,n+1, .cons r t=> .cons r (y7.take n t)
theorem y7.drop:∀{xs:List V} {us:List Value} (n:Nat),y7 xs us->y7 (xs.drop n) (us.drop n)
 |_,_,0,r=>r
 |_,_,_+1, .nil=> .nil
 |_,_,n+1, .cons _ t=>y7.drop n t
def Cb:Option V->Option Value->Prop
 |some v,some u=>RelV v u
 |none,none=>True
 |_,_=>False
def KV{κ:Type}:List (κ×V)->List (κ×Value)->Prop:=Paired fun(p:κ×V) (q:κ×Value)=>p.1=q.1/\RelV p.2 q.2
def kV:D7->V
 | .inl i=> .int i
 | .inr x=> .str x
inductive HO where
 /-- a list -/
 |lst (xs:List V)
 /-- a tuple (never changes) -/
 |tup (xs:List V)
 /-- a dict whose keys are ints and texts; one whose keys are tuples of ints and texts (the empty one is both) -/
 |dK (kvs:List (D7×V))|dT (kvs:List (List D7×V))
 /-- a set of ints: A0 members, A0 size -/
 |set (S:Int->Bool) (n:Nat)
 /-- an instance of the class at C, A0 dict at dx, A0 attributes -/
 |ins (C dx:Addr) (fs:List (Str×V))
 /-- the dict of the instance at x -/
 |own (x:Addr)
 /-- the dict of an exception -/
 |xd (fs:List (Str×V))
 /-- a bound method, f of x -/
 |met (f x:Addr)
 /-- a range object lo, lo + 1, .. below hi -/
 |rng (lo hi:Int)
 /-- a thing that is known to the object (the script; a dict while a loop walks it): read, never written while it is so -/
 |frz (o:Obj) (u:HO)
 /-- a code object's table -/
 |tbl (ps:Array Value)
 /-- any other thing, by what is true of A0 one object (a def of one's own: SetO a S n := HO.ext fun h => ..) -/
 |ext (φ:Heap->Prop)
abbrev Hp:=Addr->Option HO
def upd(H:Hp)(a:Addr)(o:HO):Hp:=fun b=>if b=a then some o else H b
theorem c5{H:Hp}{a:Addr}{o:HO}:upd H a o a=some o:=by unfold upd;rw[if_pos rfl]
theorem i4{H:Hp}{a b:Addr}{o:HO}(h:b≠a):upd H a o b=H b:=by unfold upd;rw[if_neg h]
theorem AN{H:Hp}{a:Addr}{o u:HO}:upd (upd H a o) a u=upd H a u:=by
 funext b;unfold upd;split<;>rfl
theorem AO{H:Hp}{a b:Addr}{o u:HO}(h:H a=some o)(h':H b=some u)(d:o≠u):a≠b:=by
 intro e;subst e;rw[h] at h';exact d (Ab h')
theorem k9{H:Hp}{a b:Addr}{o:HO}(h:H a=some o)(h':H b=none):a≠b:=by
 intro e;subst e;rw[h] at h';cases h'
section
variable (P:Program) (w:World)
def J4(H:Hp)(h:Heap)(a:Addr):HO->Prop
 | .lst xs=>xs.length<=sizeLine/\∃(A0:List Value) (n:Nat),y7 xs A0/\h.get? a=some {cls:= .type "list",data:= .seq A0.toArray n}
 | .tup xs=>xs.length<=sizeLine/\∃A0:List Value,y7 xs A0/\IsTup h a A0.toArray
 | .dK kvs=>kvs.length<=sizeLine/\(a==sysModules)=false/\∃vs,KV kvs vs/\h.DictOf (A3 P w) a vs
 | .dT kvs=>kvs.length<=sizeLine/\(a==sysModules)=false/\∃xs:List (List D7×Addr×Value),
   Paired (fun(p:List D7×V) (q:List D7×Addr×Value)=>p.1=q.1/\H q.2.1=some (.tup (p.1.map kV))/\RelV p.2 q.2.2) kvs xs/\
   ∃o es ep,h.get? a=some o/\o.ExactDict/\o.data= .dict es ep/\es.toList=xs.map (entryOfKey (tupleKind (A3 P w)))/\(xs.map (·.1)).Nodup
 | .set S n=>h.SetOf (intKind P w) a S n
 | .ins C dx fs=>H dx=some (.own a)/\fs.length<=1000/\dx≠a/\h.get? a=some (PySem.W.instObj C dx)/\
   ∃mA,h.Ns1 dx mA/\(∀f,Cb (fs.lookup f) (mA f))/\PySem.Within mA (fs.map (·.1))
 | .own _=>∃o,h.get? a=some o
 | .xd fs=>∃mA,h.Ns1 a mA/\∀f,Cb (fs.lookup f) (mA f)
 | .rng lo hi=>∃t u v,h.get? a=some {cls:= .type "range",data:= .fields #[.int lo t, .int hi u, .int 1 v]}
 | .frz o u=>h.get? a=some o/\J4 H h a u
 | .tbl ps=>h.get? a=some {cls:= .none,data:= .fields ps}
 | .met f x=>h.get? a=some (PySem.W.methodObj (.ref f) (.ref x))
 | .ext φ=>φ h/\(∃o,h.get? a=some o)/\∀h1 h2:Heap,φ h1->(∀o,h1.get? a=some o->h2.get? a=some o)->φ h2
def DF(H:Hp)(h:Heap):Prop:=∀a o,H a=some o->J4 P w H h a o
end
section
variable {P:Program} {w:World} {H H':Hp} {h h':Heap} {a:Addr} {o:HO}
theorem J4.lt(x:J4 P w H h a o):a<h.objs.size:=by
 cases o with
 |lst xs=>obtain⟨_,_,_,_,e⟩:=x;exact O9 e
 |tup xs=>obtain⟨_,_,_,p⟩:=x;exact p.lt
 |dK kvs=>obtain⟨_,_,_,_,o,_,_,e,_⟩:=x;exact O9 e
 |dT kvs=>obtain⟨_,_,_,_,o,_,_,e,_⟩:=x;exact O9 e
 |set S n=>obtain⟨o,_,_,_,e,_⟩:=x;exact O9 e
 |ins C dx fs=>obtain⟨_,_,_,e,_⟩:=x;exact O9 e
 |own y=>obtain⟨_,e⟩:=x;exact O9 e
 |xd fs=>obtain⟨_,⟨_,_,_,e,_⟩,_⟩:=x;exact O9 e
 |rng lo hi=>obtain⟨_,_,_,e⟩:=x;exact O9 e
 |frz ob u=>obtain⟨e,_⟩:=x;exact O9 e
 |tbl ps=>exact O9 (show h.get? a=some _ from x)
 |met f y=>exact O9 (show h.get? a=some _ from x)
 |ext φ=>obtain⟨_,⟨_,e⟩,_⟩:=x;exact O9 e
theorem Paired.mapP{α β:Type}{F G:α->β->Prop}:∀{l₁:List α} {l₂:List β},Paired F l₁ l₂->(∀a b,F a b->G a b)->Paired G l₁ l₂
 |_,_, .nil,_=> .nil
 |_,_, .cons r t,f=> .cons (f _ _ r) (Paired.mapP t f)
theorem J4.stay(x:J4 P w H h a o)(k:∀b u,(b=a\/H b=some (.own a))->h.get? b=some u->h'.get? b=some u)
  (ho:∀b,H b=some (.own a)->H' b=some (.own a))(ht:∀b xs,H b=some (.tup xs)->H' b=some (.tup xs)):J4 P w H' h' a o:=by
 induction o with
 |lst xs=>obtain⟨z,A0,n,r,e⟩:=x;exact⟨z,A0,n,r,k _ _ (.inl rfl) e⟩
 |tup xs=>obtain⟨z,A0,r,ob,e,c⟩:=x;exact⟨z,A0,r,ob,k _ _ (.inl rfl) e,c⟩
 |dK kvs=>obtain⟨z,y,vs,r,ob,es,ep,e,c⟩:=x;exact⟨z,y,vs,r,ob,es,ep,k _ _ (.inl rfl) e,c⟩
 |dT kvs=>
  obtain⟨z,y,xs,r,ob,es,ep,e,c⟩:=x
  exact⟨z,y,xs,Paired.mapP r fun p q z=>⟨z.1,ht _ _ z.2.1,z.2.2⟩,ob,es,ep,k _ _ (.inl rfl) e,c⟩
 |set S n=>obtain⟨ob,es,ep,t,e,c⟩:=x;exact⟨ob,es,ep,t,k _ _ (.inl rfl) e,c⟩
 |ins C dx fs=>
  obtain⟨d,z,ne,e,mA,⟨od,es,ep,e2,c⟩,r⟩:=x
  exact⟨ho _ d,z,ne,k _ _ (.inl rfl) e,mA,⟨od,es,ep,k _ _ (.inr d) e2,c⟩,r⟩
 |own y=>obtain⟨ob,e⟩:=x;exact⟨ob,k _ _ (.inl rfl) e⟩
 |xd fs=>obtain⟨mA,⟨od,es,ep,e,c⟩,r⟩:=x;exact⟨mA,⟨od,es,ep,k _ _ (.inl rfl) e,c⟩,r⟩
 |rng lo hi=>obtain⟨t,u,v,e⟩:=x;exact⟨t,u,v,k _ _ (.inl rfl) e⟩
 |frz ob u ih=>obtain⟨e,q⟩:=x;exact⟨k _ _ (.inl rfl) e,ih q⟩
 |tbl ps=>
  have e:h.get? a=some {cls:= .none,data:= .fields ps}:=x
  show h'.get? a=some {cls:= .none,data:= .fields ps}
  exact k a _ (.inl rfl) e
 |met f y=>
  have e:h.get? a=some (PySem.W.methodObj (.ref f) (.ref y)):=x
  show h'.get? a=some (PySem.W.methodObj (.ref f) (.ref y))
  exact k a _ (.inl rfl) e
 |ext φ=>obtain⟨p,⟨o,e⟩,st⟩:=x;exact⟨st _ _ p fun o q=>k _ _ (.inl rfl) q,⟨o,k _ _ (.inl rfl) e⟩,st⟩
theorem DF.lt(x:DF P w H h)(e:H a=some o):a<h.objs.size:=(x a o e).lt
theorem DF.fresh(x:DF P w H h)(e:h.objs.size<=a):H a=none:=by
 cases q:H a with
 |none=>rfl
 |some u=>exact absurd (U4 (x.lt q) e) (Di _)
theorem DF.kept(x:DF P w H h)(k:∀b u,h.get? b=some u->h'.get? b=some u):DF P w H h':=fun a o e=>
 (x a o e).stay (fun b u _ q=>k b u q) (fun _ q=>q) fun _ _ q=>q
theorem DF.laid(x:DF P w H h)(k:∀b u,h.get? b=some u->h'.get? b=some u)(hp:h.objs.size<=a)(new:J4 P w (upd H a o) h' a o):DF P w (upd H a o) h':=fun b u e=>by
 have hn:=x.fresh hp
 by_cases hb:b=a
 ·subst hb;rw[c5] at e;cases e;exact new
 ·rw[i4 hb] at e
  exact(x b u e).stay (fun c v _ q=>k c v q) (fun c q=>by rw[i4 (k9 q hn)];exact q) fun c xs q=>by rw[i4 (k9 q hn)];exact q
end
def Rd(H:Hp)(a:Addr)(u:HO):Prop:=H a=some u\/∃o,H a=some (.frz o u)
theorem Rd.ok{P:Program}{w:World}{H:Hp}{h:Heap}{a:Addr}{u:HO}(r:Rd H a u)(x:DF P w H h):J4 P w H h a u:=by
 rcases r with r|⟨o,r⟩
 ·exact x a u r
 ·obtain⟨_,q⟩:=x a _ r
  exact q
def Mut:Option HO->Prop
 |some (.lst _)=>True
 |some (.dK _)=>True
 |some (.dT _)=>True
 |some (.set _ _)=>True
 |some (.ins _ _ _)=>True
 |some (.ext _)=>True
 |_=>False
section
variable {P:Program} {w:World} {H:Hp} {h h':Heap} {x e:Addr} {o':HO}
theorem DF.write(ok:DF P w H h)(mu:Mut (H x))(he:e=x\/H e=some (.own x))(k:∀b u,b≠e->h.get? b=some u->h'.get? b=some u)(heo:∃u,h'.get? e=some u)
  (new:J4 P w (upd H x o') h' x o'):DF P w (upd H x o') h':=fun b u q=>by
 have nown:∀c y,H c=some (.own y)->c≠x:=fun c y r z=>by subst z;rw[r] at mu;exact mu
 have ntup:∀c xs,H c=some (.tup xs)->c≠x:=fun c xs r z=>by subst z;rw[r] at mu;exact mu
 by_cases hb:b=x
 ·subst hb;rw[c5] at q;cases q;exact new
 ·rw[i4 hb] at q
  by_cases hbe:b=e
  ·have q':H b=some (.own x):=by
    rcases he with z|z
    ·exact absurd (hbe.trans z) hb
    ·rw[hbe];exact z
   rw[q] at q';cases q'
   obtain⟨v,hv⟩:=heo
   exact⟨v,by rw[hbe];exact hv⟩
  ·refine(ok b u q).stay (fun c v hc r=>k c v ?_ r) (fun c r=>by rw[i4 (nown c b r)];exact r) fun c xs r=>by rw[i4 (ntup c xs r)];exact r
   rcases hc with rfl|hc
   ·exact hbe
   ·rintro rfl
    rcases he with z|z
    ·exact nown c b hc z
    ·rw[hc] at z;cases z;exact hb rfl
end
structure Un(fs ex:List Addr)(H H':Hp)(h h':Heap):Prop where
 keep:∀b o,h.get? b=some o->H b=none->b∉fs->b∉ex->h'.get? b=some o
 slot:∀b o,h.get? b=some o->H b=none->b∈fs->b∉ex->∃sl,h'.get? b=some {o with slots:=sl}
 free:∀b o,h.get? b=some o->H b=none->b∉ex->H' b=none
 there:∀b o,h.get? b=some o->b∉ex->∃o',h'.get? b=some o'
 tups:∀b xs,H b=some (.tup xs)->H' b=some (.tup xs)
 frzs:∀b o u,H b=some (.frz o u)->H' b=some (.frz o u)
 tbls:∀b ps,H b=some (.tbl ps)->∃more,H' b=some (.tbl (ps++more))
section
variable {fs fs' ex ex':List Addr} {H H1 H2:Hp} {h h1 h2 h':Heap} {a x e:Addr} {o:HO}
theorem Un.any(u:Un fs ex H H1 h h1){b:Addr}{ob:Obj}(q:h.get? b=some ob)(n:H b=none)(hx:b∉ex):∃sl,h1.get? b=some {ob with slots:=sl}:=by
 by_cases hb:b∈fs
 ·exact u.slot b ob q n hb hx
 ·exact⟨ob.slots,u.keep b ob q n hb hx⟩
theorem Un.kept(k:∀b u,h.get? b=some u->h'.get? b=some u):Un fs ex H H h h':=
 ⟨fun b ob q _ _ _=>k b ob q,fun b ob q _ _ _=>⟨ob.slots,k b ob q⟩,fun _ _ _ n _=>n,fun b ob q _=>⟨ob,k b ob q⟩,fun _ _ q=>q,fun _ _ _ q=>q,fun _ ps q=>⟨#[],by rw[q];simp⟩⟩
theorem Un.refl:Un fs ex H H h h:=Un.kept fun _ _ q=>q
theorem Un.laid(k:∀b u,h.get? b=some u->h'.get? b=some u)(hp:h.objs.size<=a)(hn:H a=none):Un fs ex H (upd H a o) h h' where
 keep:=fun b u q _ _ _=>k b u q
 slot:=fun b u q _ _ _=>⟨u.slots,k b u q⟩
 free:=fun b u q n _=>by rw[i4 (M7 (U4 (O9 q) hp))];exact n
 there:=fun b u q _=>⟨u,k b u q⟩
 tups:=fun b xs q=>by rw[i4 (k9 q hn)];exact q
 frzs:=fun b u xs q=>by rw[i4 (k9 q hn)];exact q
 tbls:=fun b ps q=>⟨#[],by rw[i4 (k9 q hn),q];simp⟩
theorem Un.write(mu:Mut (H x))(he:e=x\/H e=some (.own x))(k:∀b u,b≠e->h.get? b=some u->h'.get? b=some u)(heo:∃u,h'.get? e=some u):Un fs ex H (upd H x o) h h':=by
 have hx:∀b,H b=none->b≠x:=fun b n z=>by subst z;rw[n] at mu;exact mu
 have hb:∀b,H b=none->b≠e:=fun b n z=>by
  subst z
  rcases he with r|r
  ·exact hx b n r
  ·rw[n] at r;cases r
 have hm:∀b u,H b=some u->¬Mut (some u)->b≠x:=fun b u q nm z=>by subst z;rw[q] at mu;exact nm mu
 refine⟨fun b u q n _ _=>k b u (hb b n) q,fun b u q n _ _=>⟨u.slots,k b u (hb b n) q⟩,fun b u q n _=>by rw[i4 (hx b n)];exact n,fun b u q _=> ?_,
  fun b xs q=>by rw[i4 (hm b _ q fun z=>z)];exact q,fun b u xs q=>by rw[i4 (hm b _ q fun z=>z)];exact q,fun b ps q=>⟨#[],by rw[i4 (hm b _ q fun z=>z),q];simp⟩⟩
 by_cases hbe:b=e
 ·subst hbe;exact heo
 ·exact⟨u,k b u hbe q⟩
end
def trk(h:Heap)(H:Hp):List Addr:=(List.range h.objs.size).filter fun a=>(H a).isSome
def Jr(h:Heap)(H:Hp):Heap:=PySem.W.hideAll h (trk h H)
theorem Qu(h:Heap)(H:Hp):(Jr h H).objs.size=h.objs.size:=PySem.W.hideAll_size _ _
theorem UA{h:Heap}{H:Hp}{b:Addr}{o:Obj}(e:h.get? b=some o)(n:H b=none):(Jr h H).get? b=some o:=
 PySem.W.hideAll_get _ e fun hm=>by
  have q:(H b).isSome=true:=(List.mem_filter.mp hm).2
  rw[n] at q;simp at q
theorem WW{h:Heap}{H:Hp}{b:Addr}{o:Obj}(e:(Jr h H).get? b=some o):h.get? b=some o/\H b=none:=by
 have e':h.get? b=some o:=PySem.W.of_hideAll (trk h H) e
 refine⟨e',?_⟩
 cases q:H b with
 |none=>rfl
 |some x=>
  have hm:b∈trk h H:=List.mem_filter.mpr ⟨LM.mpr (O9 e'),by simp [q]⟩
  have z:(Jr h H).get? b=none:=PySem.W.hideAll_none (trk h H) hm
  rw[z] at e;cases e
def XE(g h:Heap)(L:Addr):List (Addr×Obj):=(List.range h.objs.size).filterMap fun a=>if a=L\/(g.get? a).isSome=true then none else (h.get? a).map fun o=>(a,o)
def Av(g h:Heap)(L d:Addr):List (Addr×Obj):=(XE g h L).filter fun p=>decide (p.1≠d)
structure Mod(K:n9)(mg:Str->Option Value)(base:Heap):Prop where
 kin:K.In base
 glob:base.Ns mainGlobals mg
 blt:∃mb,base.Ns builtinsNs mb/\∀x:Str,x≠"__name__"->mb x=bootBuiltins x
 nolimit:base.NoLimit
structure Cx where
 prog:Program
 w:World
 K:n9
 mg:Str->Option Value
 base:Heap
 A:Around
 N:List Str
 s₀:Shared
 H₀:Hp
 env:Env
 outer:List Env
 stack:List Env
 ex:List Addr
 fn:Str->Bool
 calm:Bool
 pn:List (Addr×Obj)
 xe:Value->Shared->Prop
def Rc(l:List Env):List Addr:=l.filterMap (·.frame)
abbrev Cx.fs(X:Cx):List Addr:=Rc X.outer
def Vis(sc:Scope)(x:Str):Prop:=sc.names.lookup x=some .local\/sc.names.lookup x=some .cell\/sc.names.lookup x=some .free
def Loc(sc:Scope)(x:Str):Prop:=sc.names.lookup x=some .local\/sc.names.lookup x=some .cell
def Look(env:Env)(h:Heap)(m:Str->Option Value)(x:Str)(u:Value):Prop:=
 (env.kindOf x=some .local/\m x=some u)\/((env.kindOf x=some .cell\/env.kindOf x=some .free)/\∃c,env.cells.lookup x=some c/\h.IsCell c (some u))
structure Cx.Ok(X:Cx):Prop where
 mod:Mod X.K X.mg X.base
 kind:X.env.scope.kind= .function
 glob:X.env.globals=mainGlobals
 blt:X.env.builtins=builtinsNs
 above:X.s₀.heap.objs.size<=X.env.locals
 inj:∀x y c,X.env.cells.lookup x=some c->X.env.cells.lookup y=some c->x=y
 has:∀x,(X.env.kindOf x=some .cell\/X.env.kindOf x=some .free)->∃c,X.env.cells.lookup x=some c
 cab:∀x c,X.fn x=true->X.env.cells.lookup x=some c->X.s₀.heap.objs.size<=c
 hd:X.calm=true->X.A.handled=none
 frames:X.A.frames=some X.stack
 stk:X.stack=X.outer\/(X.stack=X.env::X.outer/\X.env.frame=some X.env.locals)
 exf:∀b∈X.ex,b≠X.env.locals/\∀x c,X.env.cells.lookup x=some c->c≠b
 bs:∀b o,X.base.get? b=some o->X.s₀.heap.get? b=some o/\X.H₀ b=none
 bsz:X.base.objs.size<=X.s₀.heap.objs.size
 noex:∀b o,X.base.get? b=some o->b∉X.ex
 exfs:∀b∈X.ex,b∉X.fs
 funs:X.s₀.heap.FunFrames X.base X.outer
 frf:∀b∈X.fs,X.H₀ b=none
structure Inw(X:Cx)(c7:List (Addr×Obj))(σ:List (Option V))(H:Hp)(s:Shared):Prop where
 ok:X.Ok
 os:s.os=X.s₀.os
 bare:AllBare s.gens
 base:Un X.fs X.ex X.H₀ H X.s₀.heap s.heap
 loc:∃m,s.heap.Ns X.env.locals m/\∀(i:Nat) (x:Str) (v:V),X.N[i]? =some x->σ[i]? =some (some v)->Vis X.env.scope x->∃u,RelV v u/\Look X.env s.heap m x u
 cell:∀x c,X.env.cells.lookup x=some c->∃v,s.heap.IsCell c v
 free:H X.env.locals=none
 freeC:∀x c,X.env.cells.lookup x=some c->H c=none
 pin:∀p∈X.pn++c7,s.heap.get? p.1=some p.2/\H p.1=none/\p.1≠X.env.locals/\p.1∉X.fs/\∀v,p.2.data≠ .cell v
 hok:DF X.prog X.w H s.heap
 len:σ.length=X.N.length
section
variable {X:Cx} {c7:List (Addr×Obj)} {σ:List (Option V)} {H H':Hp} {s:Shared} {h':Heap}
theorem Cx.Ok.nofr(ok:X.Ok){b:Addr}{o:Obj}(e:X.base.get? b=some o):b∉X.fs:=fun hb=>by
 have:=(ok.funs.mem hb).1
 rw[e] at this;cases this
theorem Inw.bs(I:Inw X c7 σ H s):∀b o,X.base.get? b=some o->s.heap.get? b=some o/\H b=none:=fun b o e=>
 ⟨I.base.keep b o (I.ok.bs b o e).1 (I.ok.bs b o e).2 (I.ok.nofr e) (I.ok.noex b o e),I.base.free b o (I.ok.bs b o e).1 (I.ok.bs b o e).2 (I.ok.noex b o e)⟩
theorem Inw.bk(I:Inw X c7 σ H s):∀b o,X.base.get? b=some o->s.heap.get? b=some o:=fun b o e=>(I.bs b o e).1
theorem Inw.mod(I:Inw X c7 σ H s):Mod X.K X.mg X.base:=I.ok.mod
theorem Inw.kIn(I:Inw X c7 σ H s):X.K.In s.heap:=I.ok.mod.kin.keeps I.bk
theorem Inw.lt(I:Inw X c7 σ H s):X.env.locals<s.heap.objs.size:=let ⟨_,hn,_⟩:=I.loc;hn.lt
theorem Inw.sz(I:Inw X c7 σ H s):X.s₀.heap.objs.size<=s.heap.objs.size:=Ad I.ok.above (Dh I.lt)
theorem Inw.nofs(I:Inw X c7 σ H s){a:Addr}(h:s.heap.objs.size<=a):a∉X.fs:=fun hb=>by
 obtain⟨_,o,ho,_⟩:=I.ok.funs.mem hb
 exact absurd (U4 (O9 ho) (Ad I.sz h)) (Di _)
theorem Inw.cne(I:Inw X c7 σ H s):∀x c,X.env.cells.lookup x=some c->c≠X.env.locals:=fun x c e z=>by
 obtain⟨v,o,ho,hd⟩:=I.cell x c e
 obtain⟨m,⟨o',es,ep,ho',hd',_⟩,_⟩:=I.loc
 rw[z,ho'] at ho;cases ho;rw[hd'] at hd;cases hd
theorem Inw.funs(I:Inw X c7 σ H s):s.heap.FunFrames X.base X.outer:=by
 have all:∀(l:List Env),(∀b∈Rc l,b∈X.fs)->X.s₀.heap.FunFrames X.base l->s.heap.FunFrames X.base l:=by
  intro l
  induction l with
  |nil=>intro _ _;trivial
  |cons env r ih=>
   intro hs hl
   obtain⟨hk,⟨L,o,hf,hn,ho,hd⟩,hr⟩:=hl
   have hL:L∈X.fs:=hs L (by unfold Rc;rw[VH,hf];exact C0)
   obtain⟨sl,e⟩:=I.base.slot L o ho (I.ok.frf L hL) hL fun z=>I.ok.exfs L z hL
   exact⟨hk,⟨L,_,hf,hn,e,hd⟩,ih (fun b hb=>hs b (by unfold Rc;rw[VH,hf];exact D5 _ hb)) hr⟩
 exact all X.outer (fun _ hb=>hb) I.ok.funs
theorem Inw.stack(I:Inw X c7 σ H s):s.heap.FunFrames X.base X.stack:=by
 rcases I.ok.stk with e|⟨e,hf⟩
 ·rw[e];exact I.funs
 ·rw[e]
  obtain⟨m,hn,_⟩:=I.loc
  refine .cons (by rw[I.ok.kind];decide) hf hn ?_ I.funs
  exact Heap.get?_none_of_le (Ad I.ok.bsz I.ok.above)
theorem Inw.stkSub(I:Inw X c7 σ H s):∀b∈Rc X.stack,b∈X.env.locals::X.fs:=fun b hb=>by
 rcases I.ok.stk with e|⟨e,hf⟩
 ·rw[e] at hb;exact D5 _ hb
 ·rw[e] at hb
  unfold Rc at hb
  rw[VH,hf] at hb
  exact hb
theorem Inw.stkFree(I:Inw X c7 σ H s):∀b∈Rc X.stack,H b=none:=fun b hb=>by
 rcases E8.mp (I.stkSub b hb) with e|hb
 ·rw[e];exact I.free
 ·obtain⟨_,o,ho,_⟩:=I.ok.funs.mem hb
  exact I.base.free b o ho (I.ok.frf b hb) fun z=>I.ok.exfs b z hb
theorem Inw.step{g':Array GenState}{t':Nat}{d':Drawn}{ch:List Addr}(I:Inw X c7 σ H s)
  (Wb:∀b∈ch,(b∈X.ex\/X.s₀.heap.objs.size<=b)/\b≠X.env.locals/\(∀x c,X.env.cells.lookup x=some c->c≠b)/\∀p∈X.pn++c7,p.1≠b)
  (keep:∀b o,b≠X.env.locals->b∉X.fs->b∉ch->s.heap.get? b=some o->H b=none->h'.get? b=some o)
  (slot:∀b o,b≠X.env.locals->b∈X.fs->b∉ch->s.heap.get? b=some o->H b=none->∃sl,h'.get? b=some {o with slots:=sl})(free:∀b o,b∉ch->s.heap.get? b=some o->H b=none->H' b=none)
  (there:∀b o,b∉ch->s.heap.get? b=some o->∃o',h'.get? b=some o')
  (tups:∀b xs,H b=some (.tup xs)->H' b=some (.tup xs))(frzs:∀b o u,H b=some (.frz o u)->H' b=some (.frz o u))(tbls:∀b ps,H b=some (.tbl ps)->∃more,H' b=some (.tbl (ps++more)))
  (ns:∀m,s.heap.Ns X.env.locals m->h'.Ns X.env.locals m)(hok:DF X.prog X.w H' h')(hg:AllBare g'):
  Inw X c7 σ H' {s with heap:=h',gens:=g',drawn:=d',toks:=t'}:=by
 have neL:∀b o,X.s₀.heap.get? b=some o->b≠X.env.locals:=fun b o e=>M7 (U4 (O9 e) I.ok.above)
 have neC:∀b o,X.s₀.heap.get? b=some o->b∉X.ex->b∉ch:=fun b o e hx hb=>by
  rcases(Wb b hb).1 with z|z
  ·exact hx z
  ·exact absurd (U4 (O9 e) z) (Di _)
 have cellK:∀x c,X.env.cells.lookup x=some c->∀v,s.heap.IsCell c v->h'.IsCell c v:=fun x c e v ⟨o,ho,hd⟩=>by
  have nch:c∉ch:=fun z=>(Wb c z).2.2.1 x c e rfl
  by_cases hc:c∈X.fs
  ·obtain⟨sl,q⟩:=slot c o (I.cne x c e) hc nch ho (I.freeC x c e)
   exact⟨_,q,hd⟩
  ·exact⟨o,keep c o (I.cne x c e) hc nch ho (I.freeC x c e),hd⟩
 refine⟨I.ok,I.os,hg,⟨fun b o e n hb hx=> ?_,fun b o e n hb hx=> ?_,fun b o e n hx=> ?_,fun b o e hx=> ?_,fun b xs e=>tups b xs (I.base.tups b xs e),fun b o xs e=>frzs b o xs (I.base.frzs b o xs e),fun b ps e=> ?_⟩,?_,fun x c e=> ?_,?_,fun x c e=> ?_,fun p hp=> ?_,hok,I.len⟩
 ·exact keep b o (neL b o e) hb (neC b o e hx) (I.base.keep b o e n hb hx) (I.base.free b o e n hx)
 ·obtain⟨sl,e1⟩:=I.base.slot b o e n hb hx
  obtain⟨sl',e2⟩:=slot b _ (neL b o e) hb (neC b o e hx) e1 (I.base.free b o e n hx)
  exact⟨sl',e2⟩
 ·obtain⟨o',e1⟩:=I.base.there b o e hx
  exact free b o' (neC b o e hx) e1 (I.base.free b o e n hx)
 ·obtain⟨o',e1⟩:=I.base.there b o e hx
  exact there b o' (neC b o e hx) e1
 ·obtain⟨m1,e1⟩:=I.base.tbls b ps e
  obtain⟨m2,e2⟩:=tbls b _ e1
  exact⟨m1++m2,by rw[e2,Array.append_assoc]⟩
 ·obtain⟨m,hn,hl⟩:=I.loc
  refine⟨m,ns m hn,fun i x v e1 e2 e3=> ?_⟩
  obtain⟨u,r,l⟩:=hl i x v e1 e2 e3
  refine⟨u,r,?_⟩
  rcases l with l|⟨k,c,e,z⟩
  ·exact .inl l
  ·exact .inr ⟨k,c,e,cellK x c e _ z⟩
 ·obtain⟨v,z⟩:=I.cell x c e
  exact⟨v,cellK x c e v z⟩
 ·obtain⟨m,⟨o,_,_,ho,_⟩,_⟩:=I.loc
  exact free _ o (fun z=>(Wb _ z).2.1 rfl) ho I.free
 ·obtain⟨v,o,ho,hd⟩:=I.cell x c e
  exact free c o (fun z=>(Wb c z).2.2.1 x c e rfl) ho (I.freeC x c e)
 ·obtain⟨e,n,ne,nf,d⟩:=I.pin p hp
  have nch:p.1∉ch:=fun z=>(Wb p.1 z).2.2.2 p hp rfl
  exact⟨keep p.1 p.2 ne nf nch e n,free p.1 p.2 nch e n,ne,nf,d⟩
theorem Inw.un{t':Nat}(I:Inw X c7 σ H s)(u:Un X.fs [] H H' s.heap h')(hok:DF X.prog X.w H' h'):Inw X c7 σ H' {s with heap:=h',toks:=t'}:=by
 obtain⟨m,⟨o,es,ep,ho,r⟩,_⟩:=id I.loc
 obtain⟨sl,hL⟩:=u.any ho I.free (by simp)
 exact I.step (g':=s.gens) (d':=s.drawn) (ch:=[]) (fun _ z=>nomatch z) (fun b o _ hb _ e n=>u.keep b o e n hb (by simp)) (fun b o _ hb _ e n=>u.slot b o e n hb (by simp)) (fun b o _ e n=>u.free b o e n (by simp)) (fun b o _ e=>u.there b o e (by simp)) u.tups u.frzs u.tbls (fun m' hm=>by
  obtain⟨o',es',ep',ho',r'⟩:=hm
  rw[ho] at ho';cases ho'
  exact⟨_,es',ep',hL,r'⟩) hok I.bare
theorem Inw.call{g':Array GenState}{t':Nat}{d':Drawn}{ch:List Addr}(I:Inw X c7 σ H s)(u:Un (Rc X.stack) ch H H' s.heap h')(hok:DF X.prog X.w H' h')(hg:AllBare g')
  (Wb:∀b∈ch,(b∈X.ex\/X.s₀.heap.objs.size<=b)/\b≠X.env.locals/\(∀x c,X.env.cells.lookup x=some c->c≠b)/\∀p∈X.pn++c7,p.1≠b):
  Inw X c7 σ H' {s with heap:=h',gens:=g',drawn:=d',toks:=t'}:=by
 obtain⟨m,⟨o,es,ep,ho,r⟩,_⟩:=id I.loc
 obtain⟨sl,hL⟩:=u.any ho I.free fun z=>(Wb _ z).2.1 rfl
 exact I.step (ch:=ch) Wb (fun b o hL hb hc e n=>u.keep b o e n (fun z=>(E8.mp (I.stkSub b z)).elim hL hb) hc) (fun b o _ _ hc e n=>u.any e n hc) (fun b o hc e n=>u.free b o e n hc) (fun b o hc e=>u.there b o e hc) u.tups u.frzs u.tbls (fun m' hm=>by
  obtain⟨o',es',ep',ho',r'⟩:=hm
  rw[ho] at ho';cases ho'
  exact⟨_,es',ep',hL,r'⟩) hok hg
theorem Inw.turned{t':Nat}{it:Addr}(I:Inw X c7 σ H s)(k:∀b o,b≠it->s.heap.get? b=some o->h'.get? b=some o)(hn:H it=none)(hL:it≠X.env.locals)
  (h1:it∈X.ex\/X.s₀.heap.objs.size<=it)(h2:∀x c,X.env.cells.lookup x=some c->c≠it)(h3:∀p∈X.pn++c7,p.1≠it):Inw X c7 σ H {s with heap:=h',toks:=t'}:=by
 have nit:∀b u,H b=some u->b≠it:=fun b u e z=>by rw[z,hn] at e;cases e
 refine I.step (g':=s.gens) (d':=s.drawn) (ch:=[it]) (fun b hb=> ?_) (fun b o _ _ hc e _=>k b o (fun z=>hc (by simp [z])) e) (fun b o _ _ hc e _=>⟨o.slots,k b o (fun z=>hc (by simp [z])) e⟩) (fun _ _ _ _ n=>n)
  (fun b o hc e=>⟨o,k b o (fun z=>hc (by simp [z])) e⟩) (fun _ _ e=>e) (fun _ _ _ e=>e) (fun b ps e=>⟨#[],by rw[e];simp⟩) (fun m hm=> ?_) (fun b u e=> ?_) I.bare
 ·have e:b=it:=by simpa using hb
  subst e
  exact⟨h1,hL,h2,h3⟩
 ·obtain⟨o,es,ep,ho,r⟩:=hm
  exact⟨o,es,ep,k _ o (Y4 hL) ho,r⟩
 ·refine(I.hok b u e).stay (fun c v hc q=>k c v ?_ q) (fun _ q=>q) fun _ _ q=>q
  rcases hc with z|z
  ·rw[z];exact nit b u e
  ·exact nit c _ z
theorem Inw.tok(I:Inw X c7 σ H s)(t:Nat):Inw X c7 σ H {s with toks:=t}:=I.un (h':=s.heap) (t':=t) Un.refl I.hok
theorem Inw.kept{t':Nat}(I:Inw X c7 σ H s)(k:∀b u,s.heap.get? b=some u->h'.get? b=some u):Inw X c7 σ H {s with heap:=h',toks:=t'}:=I.un (Un.kept k) (I.hok.kept k)
theorem Inw.laid{a:Addr}{o:HO}{t':Nat}(I:Inw X c7 σ H s)(k:∀b u,s.heap.get? b=some u->h'.get? b=some u)(hp:s.heap.objs.size<=a)(new:J4 X.prog X.w (upd H a o) h' a o):
  Inw X c7 σ (upd H a o) {s with heap:=h',toks:=t'}:=I.un (Un.laid k hp (I.hok.fresh hp)) (I.hok.laid k hp new)
theorem Inw.write{x e:Addr}{o:HO}{t':Nat}(I:Inw X c7 σ H s)(mu:Mut (H x))(he:e=x\/H e=some (.own x))(k:∀b u,b≠e->s.heap.get? b=some u->h'.get? b=some u)(heo:∃u,h'.get? e=some u)
  (new:J4 X.prog X.w (upd H x o) h' x o):Inw X c7 σ (upd H x o) {s with heap:=h',toks:=t'}:=I.un (Un.write mu he k heo) (I.hok.write mu he k heo new)
theorem Inw.pins_of{pins':List (Addr×Obj)}(I:Inw X c7 σ H s)(h:∀p∈pins',s.heap.get? p.1=some p.2/\H p.1=none/\p.1≠X.env.locals/\p.1∉X.fs/\∀v,p.2.data≠ .cell v):Inw X pins' σ H s:=
 ⟨I.ok,I.os,I.bare,I.base,I.loc,I.cell,I.free,I.freeC,fun p hp=>(U3.mp hp).elim (fun z=>I.pin p (Pt _ z)) (h p),I.hok,I.len⟩
theorem KY{N:List Str}(hN:N.Nodup){i j:Nat}{x:Str}(a:N[i]? =some x)(b:N[j]? =some x):i=j:=by
 obtain⟨h1,e1⟩:=D9.mp a
 obtain⟨h2,e2⟩:=D9.mp b
 exact(List.getElem_inj hN).mp (e1.trans e2.symm)
theorem HI{M:Model}{A:Around}{E:Value->Shared->Prop}{i:Nat}{x:Str}{v:V}{u:Value}{Q:Unit->Shared->Prop}(I:Inw X c7 σ H s)(hN:X.N.Nodup)(hi:X.N[i]? =some x)(hx:Loc X.env.scope x)(r:RelV v u)
  (h:∀s',Inw X c7 (σ.set i (some v)) H s'->(∃a,Heap.SameBut a s.heap s'.heap/\(a=X.env.locals\/X.env.cells.lookup x=some a))->Q () s')(hf:X.fn x=true\/X.env.scope.names.lookup x=some .local:=by first|exact .inl rfl|exact .inr rfl|assumption):wpAny M A (storeName X.env x u) Q E s:=by
 obtain⟨m,hn,hl⟩:=id I.loc
 have hcls:(X.env.scope.kind== .class||(X.env.scope.kind== .module&&X.env.locals != X.env.globals))=false:=by rw[I.ok.kind];rfl
 have hiσ:i<σ.length:=by rw[I.len];exact(D9.mp hi).1
 have cne:=I.cne
 have tracked:∀{a:Addr} {h':Heap},(∃o,s.heap.get? a=some o/\H a=none)->Heap.SameBut a s.heap h'->DF X.prog X.w H h':=fun{a h'} ha hs b ob e=>by
  obtain⟨_,_,hfree⟩:=ha
  refine(I.hok b ob e).stay (fun c w' hc q=>(hs.2 c ?_).trans q) (fun _ q=>q) fun _ _ q=>q
  rintro rfl
  rcases hc with rfl|hc
  ·rw[hfree] at e;cases e
  ·rw[hfree] at hc;cases hc
 rcases hx with hk|hk
 ·refine wpAny_storeName_local hk hn (fun h' hn' hs=> ?_) hcls
  obtain⟨oL,_,_,hoL,_⟩:=id hn
  refine h _ ⟨I.ok,I.os,I.bare,⟨fun b o e n hb hx=> ?_,fun b o e n hb hx=> ?_,I.base.free,fun b o e hx=> ?_,I.base.tups,I.base.frzs,I.base.tbls⟩,⟨_,hn',fun j y v' e1 e2 e3=> ?_⟩,fun y c e=> ?_,I.free,I.freeC,fun p hp=> ?_,tracked ⟨oL,hoL,I.free⟩ hs,by simpa using I.len⟩ ⟨_,hs, .inl rfl⟩
  ·exact(hs.2 b (M7 (U4 (O9 e) I.ok.above))).trans (I.base.keep b o e n hb hx)
  ·obtain⟨sl,e1⟩:=I.base.slot b o e n hb hx
   exact⟨sl,(hs.2 b (M7 (U4 (O9 e) I.ok.above))).trans e1⟩
  ·obtain⟨o',e1⟩:=I.base.there b o e hx
   exact⟨o',(hs.2 b (M7 (U4 (O9 e) I.ok.above))).trans e1⟩
  ·by_cases hj:j=i
   ·subst hj
    rw[hi] at e1;cases e1
    rw[Vo hiσ] at e2
    cases e2
    exact⟨u,r, .inl ⟨hk,by simp⟩⟩
   ·rw[Za (Y4 hj)] at e2
    obtain⟨u',r',q⟩:=hl j y v' e1 e2 e3
    refine⟨u',r',?_⟩
    rcases q with ⟨k,e⟩|⟨k,c,e,z⟩
    ·refine .inl ⟨k,?_⟩
     have:y≠x:=fun e=>hj (KY hN e1 (e▸hi))
     simp [this,e]
    ·exact .inr ⟨k,c,e,z.sameBut hs (cne y c e)⟩
  ·obtain⟨w',z⟩:=I.cell y c e
   exact⟨w',z.sameBut hs (cne y c e)⟩
  ·obtain⟨e,n,ne,nf,d⟩:=I.pin p hp
   exact⟨(hs.2 p.1 ne).trans e,n,ne,nf,d⟩
 ·have hfn:X.fn x=true:=by
   rcases hf with z|z
   ·exact z
   ·rw[z] at hk;cases hk
  obtain⟨c,hc⟩:=I.ok.has x (.inl hk)
  obtain⟨w',z⟩:=I.cell x c hc
  refine wpAny_storeName_cell I.ok.kind hk hc z (fun h' hc' hs=> ?_)
  obtain⟨oc,hoc,hocd⟩:=id z
  refine h {s with heap:=h'} ⟨I.ok,I.os,I.bare,⟨fun b o e n hb hx=> ?_,fun b o e n hb hx=> ?_,I.base.free,fun b o e hx=> ?_,I.base.tups,I.base.frzs,I.base.tbls⟩,⟨m,hn.sameBut hs (Y4 (cne x c hc)),fun j y v' e1 e2 e3=> ?_⟩,fun y c' e=> ?_,I.free,I.freeC,fun p hp=> ?_,tracked ⟨oc,hoc,I.freeC x c hc⟩ hs,by simpa using I.len⟩ ⟨c,hs, .inr hc⟩
  ·exact(hs.2 b (M7 (U4 (O9 e) (I.ok.cab x c hfn hc)))).trans (I.base.keep b o e n hb hx)
  ·obtain⟨sl,e1⟩:=I.base.slot b o e n hb hx
   exact⟨sl,(hs.2 b (M7 (U4 (O9 e) (I.ok.cab x c hfn hc)))).trans e1⟩
  ·obtain⟨o',e1⟩:=I.base.there b o e hx
   exact⟨o',(hs.2 b (M7 (U4 (O9 e) (I.ok.cab x c hfn hc)))).trans e1⟩
  ·by_cases hj:j=i
   ·subst hj
    rw[hi] at e1;cases e1
    rw[Vo hiσ] at e2
    cases e2
    exact⟨u,r, .inr ⟨.inl hk,c,hc,hc'⟩⟩
   ·rw[Za (Y4 hj)] at e2
    obtain⟨u',r',q⟩:=hl j y v' e1 e2 e3
    refine⟨u',r',?_⟩
    rcases q with q|⟨k,c',e,z'⟩
    ·exact .inl q
    ·refine .inr ⟨k,c',e,z'.sameBut hs ?_⟩
     rintro rfl
     exact hj (KY hN e1 (I.ok.inj _ _ _ e hc▸hi))
  ·by_cases hcc:c'=c
   ·subst hcc;exact⟨_,hc'⟩
   ·obtain⟨w2,z2⟩:=I.cell y c' e
    exact⟨w2,z2.sameBut hs hcc⟩
  ·obtain⟨e,n,ne,nf,d⟩:=I.pin p hp
   refine⟨(hs.2 p.1 ?_).trans e,n,ne,nf,d⟩
   intro q
   rw[q,hoc] at e
   have q':oc=p.2:=Ab e
   exact d w' (by rw[<-q'];exact hocd)
theorem DO{M:Model}{A:Around}{E:Value->Shared->Prop}{i:Nat}{x:Str}{v:V}{u:Value}{Q:Unit->Shared->Prop}(I:Inw X c7 σ H s)(hN:X.N.Nodup)(hi:X.N[i]? =some x)(hx:Loc X.env.scope x)(r:RelV v u)
  (h:∀s',Inw X c7 (σ.set i (some v)) H s'->Q () s')(hf:X.fn x=true\/X.env.scope.names.lookup x=some .local:=by first|exact .inl rfl|exact .inr rfl|assumption):wpAny M A (storeName X.env x u) Q E s:=
 HI I hN hi hx r (fun s' I' _=>h s' I') hf
theorem Inw.call'{s':Shared}{ch:List Addr}(I:Inw X c7 σ H s)(ho:s'.os=s.os)(u:Un (Rc X.stack) ch H H' s.heap s'.heap)(hok:DF X.prog X.w H' s'.heap)(hg:AllBare s'.gens)
  (Wb:∀b∈ch,(b∈X.ex\/X.s₀.heap.objs.size<=b)/\b≠X.env.locals/\(∀x c,X.env.cells.lookup x=some c->c≠b)/\∀p∈X.pn++c7,p.1≠b):Inw X c7 σ H' s':=by
 obtain⟨h',g',d',t',o'⟩:=s'
 have e:o'=s.os:=ho
 subst e
 exact I.call (g':=g') (t':=t') (d':=d') u hok hg Wb
end
abbrev XK:=Value->Option Addr->Hp->Prop
abbrev St:=List (Option V)
abbrev VK:=V->Hp->Prop
abbrev TE:=St->Hp->VK->Prop
abbrev TT:=St->Hp->(Bool->Hp->Prop)->Prop
abbrev TA:=St->Hp->(List V->Hp->Prop)->Prop
structure Ends where
 nx:St->Hp->Prop
 rt:VK
 bk:St->Hp->Prop:=fun _ _=>False
 ct:St->Hp->Prop:=fun _ _=>False
abbrev TS:=Ends->St->Hp->Prop
def EP(X:Cx)(c7:List (Addr×Obj))(σ:St)(Q:VK)(u:Value)(s':Shared):Prop:=∃v H',Inw X c7 σ H' s'/\RelV v u/\Q v H'
def TP(X:Cx)(c7:List (Addr×Obj))(σ:St)(Q:Bool->Hp->Prop)(b:Bool)(s':Shared):Prop:=∃H',Inw X c7 σ H' s'/\Q b H'
def AP(X:Cx)(c7:List (Addr×Obj))(σ:St)(Q:List V->Hp->Prop)(us:List Value)(s':Shared):Prop:=∃vs H',Inw X c7 σ H' s'/\y7 vs us/\Q vs H'
def SP(X:Cx)(c7:List (Addr×Obj))(D:Ends)(f:Flow)(s':Shared):Prop:=
 match f with
 | .next=>∃σ' H',Inw X c7 σ' H' s'/\D.nx σ' H'
 | .brk=>∃σ' H',Inw X c7 σ' H' s'/\D.bk σ' H'
 | .cont=>∃σ' H',Inw X c7 σ' H' s'/\D.ct σ' H'
 | .ret u=>∃v σ' H',Inw X c7 σ' H' s'/\RelV v u/\D.rt v H'
structure Inv(X:Cx)(c7:List (Addr×Obj))(σ:List (Option V))(H:Hp)(s:Shared):Prop extends Inw X c7 σ H s where
 pos:0<s.toks
instance {X:Cx} {c7:List (Addr×Obj)} {σ:List (Option V)} {H:Hp} {s:Shared}:CoeOut (Inv X c7 σ H s) (Inw X c7 σ H s):=⟨Inv.toInw⟩
def EPs(X:Cx)(c7:List (Addr×Obj))(σ:St)(Q:VK)(u:Value)(s':Shared):Prop:=∃v H',Inv X c7 σ H' s'/\RelV v u/\Q v H'
def TPs(X:Cx)(c7:List (Addr×Obj))(σ:St)(Q:Bool->Hp->Prop)(b:Bool)(s':Shared):Prop:=∃H',Inv X c7 σ H' s'/\Q b H'
def APs(X:Cx)(c7:List (Addr×Obj))(σ:St)(Q:List V->Hp->Prop)(us:List Value)(s':Shared):Prop:=∃vs H',Inv X c7 σ H' s'/\y7 vs us/\Q vs H'
def Rf(X:Cx)(c7:List (Addr×Obj))(D:Ends)(f:Flow)(s':Shared):Prop:=
 match f with
 | .next=>∃σ' H',Inv X c7 σ' H' s'/\D.nx σ' H'
 | .brk=>∃σ' H',Inv X c7 σ' H' s'/\D.bk σ' H'
 | .cont=>∃σ' H',Inv X c7 σ' H' s'/\D.ct σ' H'
 | .ret u=>∃v σ' H',Inv X c7 σ' H' s'/\RelV v u/\D.rt v H'
theorem Rf.w{X:Cx}{c7:List (Addr×Obj)}{D:Ends}{f:Flow}{s:Shared}(h:Rf X c7 D f s):SP X c7 D f s:=by
 cases f with
 |next=>obtain⟨σ,H,I,q⟩:=h;exact⟨σ,H,I.toInw,q⟩
 |brk=>obtain⟨σ,H,I,q⟩:=h;exact⟨σ,H,I.toInw,q⟩
 |cont=>obtain⟨σ,H,I,q⟩:=h;exact⟨σ,H,I.toInw,q⟩
 |ret u=>obtain⟨v,σ,H,I,r,q⟩:=h;exact⟨v,σ,H,I.toInw,r,q⟩
def PE(X:Cx)(e:Expr)(t:TE):Prop:=
 ∀(c7:List (Addr×Obj)) (s:Shared) (σ:St) (H:Hp) (Q:VK),Inv X c7 σ H s->t σ H Q->wpAny (model X.prog X.w) X.A (eval e X.env) (EP X c7 σ Q) X.xe s
def PT(X:Cx)(e:Expr)(t:TT):Prop:=
 ∀(c7:List (Addr×Obj)) (s:Shared) (σ:St) (H:Hp) (Q:Bool->Hp->Prop),Inv X c7 σ H s->t σ H Q->wpAny (model X.prog X.w) X.A (isTrue e X.env (eval e X.env)) (TP X c7 σ Q) X.xe s
def PW(X:Cx)(e:Expr)(t:TT):Prop:=
 ∀(Cc:Sem Value) (c7:List (Addr×Obj)) (s:Shared) (σ:St) (H:Hp) (Q:Bool->Hp->Prop),Inv X c7 σ H s->t σ H Q->wpAny (model X.prog X.w) X.A (isTrue e X.env Cc) (TP X c7 σ Q) X.xe s
theorem PW.pt{X:Cx}{e:Expr}{t:TT}(h:PW X e t):PT X e t:=h _
def PA(X:Cx)(es:List Expr)(t:TA):Prop:=
 ∀(pos:Pos) (c7:List (Addr×Obj)) (s:Shared) (σ:St) (H:Hp) (Q:List V->Hp->Prop),Inv X c7 σ H s->t σ H Q->wpAny (model X.prog X.w) X.A (spliced (backTo pos (starEach es X.env))) (AP X c7 σ Q) X.xe s
def PS(X:Cx)(st:Stmt)(t:TS):Prop:=
 ∀(c7:List (Addr×Obj)) (s:Shared) (σ:St) (H:Hp) (D:Ends),Inv X c7 σ H s->t D σ H->wpAny (model X.prog X.w) X.A (exec st X.env) (SP X c7 D) X.xe s
def Mb(X:Cx)(st:List Stmt)(t:TS):Prop:=
 ∀(c7:List (Addr×Obj)) (s:Shared) (σ:St) (H:Hp) (D:Ends),Inv X c7 σ H s->t D σ H->wpAny (model X.prog X.w) X.A (execs st X.env) (SP X c7 D) X.xe s
structure WP{β:Type}(M:Model)(A:Around)(t:Sem β)(Q:β->Shared->Prop)(E:Value->Shared->Prop)(s:Shared):Prop where
 pos:0<s.toks
 run:wpAny M A t Q E s
instance {β:Type} {M:Model} {A:Around} {t:Sem β} {Q:β->Shared->Prop} {E:Value->Shared->Prop} {s:Shared}:CoeOut (WP M A t Q E s) (wpAny M A t Q E s):=⟨WP.run⟩
class Up {α:Type} (Q:α->Shared->Prop) (Qp:outParam (α->Shared->Prop)):Prop where
 up:∀a s,0<s.toks->Q a s->Qp a s
instance (priority:=low) {α:Type} {Q:α->Shared->Prop}:Up Q Q:=⟨fun _ _ _ h=>h⟩
instance {α β:Type} {M:Model} {A:Around} {t:α->Sem β} {Q:α->β->Shared->Prop} {E:Value->Shared->Prop}:Up (fun v s=>wpAny M A (t v) (Q v) E s) (fun v s=>WP M A (t v) (Q v) E s):=⟨fun _ _ z h=>⟨z,h⟩⟩
instance {X:Cx} {c7:List (Addr×Obj)} {σ:St} {Q:VK}:Up (EP X c7 σ Q) (EPs X c7 σ Q):=⟨fun _ _ z ⟨v,H,I,r,q⟩=>⟨v,H,⟨I,z⟩,r,q⟩⟩
instance {X:Cx} {c7:List (Addr×Obj)} {σ:St} {Q:Bool->Hp->Prop}:Up (TP X c7 σ Q) (TPs X c7 σ Q):=⟨fun _ _ z ⟨H,I,q⟩=>⟨H,⟨I,z⟩,q⟩⟩
instance {X:Cx} {c7:List (Addr×Obj)} {σ:St} {Q:List V->Hp->Prop}:Up (AP X c7 σ Q) (APs X c7 σ Q):=⟨fun _ _ z ⟨v,H,I,r,q⟩=>⟨v,H,⟨I,z⟩,r,q⟩⟩
instance {X:Cx} {c7:List (Addr×Obj)} {D:Ends}:Up (SP X c7 D) (Rf X c7 D):=⟨fun f _ z h=>by
 cases f with
 |next=>obtain⟨σ,H,I,q⟩:=h;exact⟨σ,H,⟨I,z⟩,q⟩
 |brk=>obtain⟨σ,H,I,q⟩:=h;exact⟨σ,H,⟨I,z⟩,q⟩
 |cont=>obtain⟨σ,H,I,q⟩:=h;exact⟨σ,H,⟨I,z⟩,q⟩
 |ret u=>obtain⟨v,σ,H,I,r,q⟩:=h;exact⟨v,σ,H,⟨I,z⟩,r,q⟩⟩
instance {α:Type} {X:Cx} {c7:List (Addr×Obj)} {Q:St->Hp->Prop}:Up (fun(_:α) s'=>∃σ' H',Inw X c7 σ' H' s'/\Q σ' H') (fun _ s'=>∃σ' H',Inv X c7 σ' H' s'/\Q σ' H'):=⟨fun _ _ z ⟨σ,H,I,q⟩=>⟨σ,H,⟨I,z⟩,q⟩⟩
instance {α:Type} {X:Cx} {c7:List (Addr×Obj)} {σ:St} {Q:Hp->Prop}:Up (fun(_:α) s'=>∃H',Inw X c7 σ H' s'/\Q H') (fun _ s'=>∃H',Inv X c7 σ H' s'/\Q H'):=⟨fun _ _ z ⟨H,I,q⟩=>⟨H,⟨I,z⟩,q⟩⟩
theorem P0{α:Type}{t:Sem α}{Q Qp Q':α->Shared->Prop}[u:Up Q Qp]{M:Model}{A:Around}{E:Value->Shared->Prop}{s:Shared}(h:wpAny M A t Q E s)(hQ:∀a s,Qp a s->Q' a s)(z:0<s.toks:=by first|assumption|exact Inv.pos (by assumption)|exact WP.pos (by assumption)):wpAny M A t Q' E s:=
 W6 z (U2 h (fun a s' q z'=>hQ a s' (u.up a s' z' q)) fun _ _ x _=>x)
theorem PN{α:Type}{t:Sem α}{Q Q':α->Shared->Prop}{M:Model}{A:Around}{E:Value->Shared->Prop}{s:Shared}(h:wpAny M A t Q E s)(hQ:∀a s,Q a s->Q' a s):wpAny M A t Q' E s:=U2 h hQ fun _ _ x=>x
theorem Ki{α:Type}{t:Sem α}{Q Q':α->Shared->Prop}{M:Model}{A:Around}{E:Value->Shared->Prop}{s:Shared}(z:0<s.toks)(h:wpAny M A t Q E s)(hQ:∀a s,0<s.toks->Q a s->Q' a s):wpAny M A t Q' E s:=
 W6 z (U2 h (fun a s' q z'=>hQ a s' z' q) fun _ _ x _=>x)
section
variable {X:Cx}
theorem bin{a b:Expr}{ta tb:TE}(ha:PE X a ta)(hb:PE X b tb){c7:List (Addr×Obj)}{s:Shared}{σ:St}{H:Hp}{R:V->V->Hp->Prop}(I:Inv X c7 σ H s)(h:ta σ H fun x H1=>tb σ H1 fun y H2=>R x y H2)
  {α:Type}{Q:α->Shared->Prop}{f:Value->Value->Sem α}
  (hf:∀v u s2 x y H2,Inv X c7 σ H2 s2->RelV x v->RelV y u->R x y H2->wpAny (model X.prog X.w) X.A (f v u) Q X.xe s2):
  wpAny (model X.prog X.w) X.A (eval a X.env) (fun v s₁=>wpAny (model X.prog X.w) X.A (eval b X.env) (fun u s₂=>wpAny (model X.prog X.w) X.A (f v u) Q X.xe s₂) X.xe s₁) X.xe s:=by
 refine P0 (ha c7 s σ H _ I h) fun v s1 ⟨x,H1,I1,r1,q1⟩=> ?_
 refine P0 (hb c7 s1 σ H1 _ I1 q1) fun u s2 ⟨y,H2,I2,r2,q2⟩=> ?_
 exact hf v u s2 x y H2 I2 r1 r2 q2
def IG(i:Nat):TE:=fun σ H Q=>∃v,σ[i]? =some (some v)/\Q v H
def tC(v:V):TE:=fun _ H Q=>Q v H
theorem To{i:Nat}{x:Str}{pos:Pos}(hN:X.N[i]? =some x)(hv:Vis X.env.scope x)(hd:(x==("__debug__":Str))=false:=by decide)(Lo:(x==("__classdict__":Str))=false:=by decide):PE X (.Name x pos) (IG i):=by
 intro c7 s σ H Q I h
 obtain⟨v,e,h⟩:=h
 obtain⟨m,hn,hl⟩:=I.loc
 obtain⟨u,r,l⟩:=hl i x v hN e hv
 have fin:EP X c7 σ Q u s:=⟨v,H,I,r,h⟩
 rcases l with ⟨hk,hm⟩|⟨hk,c,hc,hcell⟩
 ·exact Ps (Vl I.ok.kind hk hn hm fin) hd
 ·rcases hk with hk|hk
  ·exact Ps (wpAny_loadName_cell I.ok.kind hk hc hcell fin) hd
  ·exact Ps (wpAny_loadName_free I.ok.kind hk hc hcell fin Lo) hd
theorem j0{i j pos}:PE X (.Constant (.int i) j pos) (tC (.int i)):=fun _ _ _ H _ I h=>Vk ⟨.int i,H,I.tok _,⟨_,rfl⟩,h⟩
theorem Ay{b j pos}:PE X (.Constant (.bool b) j pos) (tC (.bl b)):=fun _ _ _ H _ I h=>Constant_bool ⟨.bl b,H,I,rfl,h⟩
theorem A5{x j pos}:PE X (.Constant (.str x) j pos) (tC (.str x)):=fun _ _ _ H _ I h=>Calls.Constant_str ⟨.str x,H,I.tok _,⟨_,rfl⟩,h⟩
def Gl(X:Cx)(x:Str):Prop:=X.env.kindOf x=some .globalImplicit
theorem Ed{E:Value->Shared->Prop}{c7:List (Addr×Obj)}{s:Shared}{σ:St}{H:Hp}{x:Str}{u:Value}{pos:Pos}{Q:Value->Shared->Prop}(I:Inv X c7 σ H s)(hg:Gl X x)(hm:X.mg x=some u)(h:Q u s)
  (hd:(x==("__debug__":Str))=false:=by decide):wpAny (model X.prog X.w) X.A (eval (.Name x pos) X.env) Q E s:=
 Vj I.ok.kind hg (YZ (by rw[I.ok.glob];exact I.mod.glob.keeps I.bk) hm h) hd
theorem Gb{E:Value->Shared->Prop}{c7:List (Addr×Obj)}{s:Shared}{σ:St}{H:Hp}{x:Str}{u:Value}{pos:Pos}{Q:Value->Shared->Prop}(I:Inv X c7 σ H s)(hg:Gl X x)(hm:X.mg x=none)(hv:bootBuiltins x=some u)(h:Q u s)
  (hn:x≠"__name__":=by decide)(hd:(x==("__debug__":Str))=false:=by decide):wpAny (model X.prog X.w) X.A (eval (.Name x pos) X.env) Q E s:=by
 obtain⟨mb,h1,h2⟩:=I.mod.blt
 exact Vj I.ok.kind hg (Calls.loadGlobal_builtin (by rw[I.ok.glob];exact I.mod.glob.keeps I.bk) hm (by rw[I.ok.blt];exact h1.keeps I.bk) ((h2 x hn).trans hv) h) hd
theorem Z2{x:Str}{v:V}{u:Value}{pos:Pos}(hg:Gl X x)(hm:X.mg x=none)(hv:bootBuiltins x=some u)(r:RelV v u)(hn:x≠"__name__":=by decide)(hd:(x==("__debug__":Str))=false:=by decide):PE X (.Name x pos) (tC v):=
 fun _ _ _ H _ I h=>Gb I hg hm hv ⟨v,H,I,r,h⟩ hn hd
variable {a b:Expr} {ta tb:TE} {pos:Pos}
def PC(X:Cx)(op:CmpOp)(a b:Expr)(t:TE):Prop:=
 ∀(c7:List (Addr×Obj)) (s:Shared) (σ:St) (H:Hp) (Q:VK),Inv X c7 σ H s->t σ H Q->
  wpAny (model X.prog X.w) X.A (eval a X.env) (fun v s₁=>wpAny (model X.prog X.w) X.A (eval b X.env) (fun u s₂=>wpAny (model X.prog X.w) X.A (compareOp op v u) (EP X c7 σ Q) X.xe s₂) X.xe s₁) X.xe s
theorem TU(b:Expr){op:CmpOp}(h:op≠ .In)(h2:op≠ .NotIn):behindInMarks op b=false:=by
 have e1:(op==CmpOp.In)=false:=by cases op<;>first|rfl|exact absurd rfl h
 have e2:(op==CmpOp.NotIn)=false:=by cases op<;>first|rfl|exact absurd rfl h2
 cases b<;>simp [behindInMarks,e1,e2]
def tB(t:TE):TT:=fun σ H Q=>t σ H fun x H1=>∃c,x= .bl c/\Q c H1
theorem Qam{op:CmpOp}{t:TE}(h:PC X op a b t)(h1:behindInMarks op b=false:=by first|exact TU _ (by decide) (by decide)|rfl):PT X (.Compare a [op] [b] pos) (tB t):=by
 intro c7 s σ H Q I hw
 refine wpAny_isTrue_Compare1 (P0 (h c7 s σ H _ I hw) fun v s1 g1=> ?_) h1
 refine P0 g1.run fun u s2 h2=> ?_
 refine P0 h2.run fun c s3 ⟨x,H1,I1,r1,q1⟩=> ?_
 obtain⟨d,rfl,q⟩:=q1
 cases r1
 exact Fe ⟨H1,I1,q⟩
theorem Q6{e:Expr}{t:TE}(h:PE X e t)(he:∀Cc,isTrue e X.env Cc=(do let v<-Cc;standAt e.pos;holding [v] (truthy v)):=by intro _;rfl):PT X e (tB t):=by
 intro c7 s σ H Q I hw
 refine isTrue_plain (P0 (h c7 s σ H _ I hw) fun v s1 ⟨x,H1,I1,r1,q1⟩=> ?_) (he _)
 obtain⟨d,rfl,q⟩:=q1
 cases r1
 exact Fe ⟨H1,I1,q⟩
variable {tA tB':TT} {Av:List Expr}
def Zr(t u:TT):TT:=fun σ H Q=>t σ H fun c H1=>if c=true then u σ H1 Q else Q false H1
def tOr(t u:TT):TT:=fun σ H Q=>t σ H fun c H1=>if c=true then Q true H1 else u σ H1 Q
def Zp(t:TT):TT:=fun σ H Q=>t σ H fun c H1=>Q (!c) H1
theorem Ot(ha:PT X a tA):PW X (.BoolOp .And [a] pos) tA:=by
 intro wh c7 s σ H Q I h
 refine isTrue_and (PN (ha c7 s σ H Q I h) fun c s1 e=> ?_)
 cases c with
 |true=>exact isTrue_and_nil e
 |false=>exact e
theorem Aw(ha:PT X a tA):PW X (.BoolOp .Or [a] pos) tA:=by
 intro wh c7 s σ H Q I h
 refine isTrue_or (PN (ha c7 s σ H Q I h) fun c s1 e=> ?_)
 cases c with
 |false=>exact isTrue_or_nil e
 |true=>exact e
theorem Td(ha:PT X a tA)(hb:PW X (.BoolOp .And (b::Av) pos) tB'):PW X (.BoolOp .And (a::b::Av) pos) (Zr tA tB'):=by
 intro wh c7 s σ H Q I h
 refine isTrue_and (P0 (ha c7 s σ H _ I h) fun c s1 ⟨H1,I1,q1⟩=> ?_)
 cases c with
 |true=>exact hb wh c7 s1 σ H1 Q I1 q1
 |false=>exact⟨H1,I1,q1⟩
theorem Bp(ha:PT X a tA)(hb:PW X (.BoolOp .Or (b::Av) pos) tB'):PW X (.BoolOp .Or (a::b::Av) pos) (tOr tA tB'):=by
 intro wh c7 s σ H Q I h
 refine isTrue_or (P0 (ha c7 s σ H _ I h) fun c s1 ⟨H1,I1,q1⟩=> ?_)
 cases c with
 |true=>exact⟨H1,I1,q1⟩
 |false=>exact hb wh c7 s1 σ H1 Q I1 q1
theorem Q7(ha:PT X a tA):PT X (.UnaryOp .Not a pos) (Zp tA):=by
 intro c7 s σ H Q I h
 exact isTrue_not (ha c7 s σ H (fun c H1=>Q (!c) H1) I h)
def RN(ta tb:TE):TE:=fun σ H Q=>ta σ H fun x H1=>∃c,x= .bl c/\if c=true then tb σ H1 Q else Q (.bl false) H1
def Zo(ta tb:TE):TE:=fun σ H Q=>ta σ H fun x H1=>∃c,x= .bl c/\if c=true then Q (.bl true) H1 else tb σ H1 Q
def RF(ta:TE):TE:=fun σ H Q=>ta σ H fun x H1=>∃c,x= .bl c/\Q (.bl (!c)) H1
theorem Dp{op}{t:TE}(h:PE X a t):PE X (.BoolOp op [a] pos) t:=fun c7 s σ H Q I hw=>BoolOp_one (h c7 s σ H Q I hw)
theorem EA(ha:PE X a ta)(hb:PE X (.BoolOp .And (b::Av) pos) tb):PE X (.BoolOp .And (a::b::Av) pos) (RN ta tb):=by
 intro c7 s σ H Q I h
 refine BoolOp_and (P0 (ha c7 s σ H _ I h) fun v s1 ⟨x,H1,I1,r1,q1⟩=> ?_)
 obtain⟨c,rfl,q1⟩:=q1
 cases r1
 refine Fe ?_
 cases c with
 |true=>exact hb c7 s1 σ H1 Q I1 q1
 |false=>exact⟨.bl false,H1,I1,rfl,q1⟩
theorem Tp(ha:PE X a ta)(hb:PE X (.BoolOp .Or (b::Av) pos) tb):PE X (.BoolOp .Or (a::b::Av) pos) (Zo ta tb):=by
 intro c7 s σ H Q I h
 refine BoolOp_or (P0 (ha c7 s σ H _ I h) fun v s1 ⟨x,H1,I1,r1,q1⟩=> ?_)
 obtain⟨c,rfl,q1⟩:=q1
 cases r1
 refine Fe ?_
 cases c with
 |false=>exact hb c7 s1 σ H1 Q I1 q1
 |true=>exact⟨.bl true,H1,I1,rfl,q1⟩
theorem Tq(ha:PE X a ta):PE X (.UnaryOp .Not a pos) (RF ta):=by
 intro c7 s σ H Q I h
 refine UnaryOp_ (P0 (ha c7 s σ H _ I h) fun v s1 ⟨x,H1,I1,r1,q1⟩=> ?_)
 obtain⟨c,rfl,q1⟩:=q1
 cases r1
 exact not_of (Fe ⟨.bl (!c),H1,I1,rfl,q1⟩)
def tIf(t:TT)(ta tb:TE):TE:=fun σ H Q=>t σ H fun c H1=>if c=true then ta σ H1 Q else tb σ H1 Q
end
def o6(K:n9)(H:Hp)(a:Addr)(xs:List V):Prop:=
 Rd H a (.lst xs)\/
  ∃(o:Obj) (A0:Array Value) (n:Nat),K.lookup a=some o/\o.cls= .type "list"/\o.dict=none/\o.data= .seq A0 n/\A0.size<=sizeLine/\y7 xs A0.toList
def AG(K:n9)(H:Hp)(a:Addr)(xs:List V):Prop:=
 Rd H a (.tup xs)\/
  ∃(o:Obj) (A0:Array Value) (n:Nat),K.lookup a=some o/\o.cls= .type "tuple"/\o.data= .seq A0 n/\A0.size<=sizeLine/\y7 xs A0.toList
def Qdq:Value->Option V
 | .none=>some .non
 | .bool b=>some (.bl b)
 | .int i _=>some (.int i)
 | .str x _=>some (.str x)
 | .bytes b _=>some (.byt b)
 | .float b _=>some (.flt b)
 | .ref a=>some (.ref a)
 | .type n=>some (.ty n)
 |_=>none
theorem RelV.abs{x:V}{u:Value}(r:RelV x u):Qdq u=some x:=by
 cases x with
 |non=>cases r;rfl
 |bl _=>cases r;rfl
 |int _=>obtain⟨t,rfl⟩:=r;rfl
 |str _=>obtain⟨t,rfl⟩:=r;rfl
 |byt _=>obtain⟨t,rfl⟩:=r;rfl
 |flt _=>obtain⟨t,rfl⟩:=r;rfl
 |ref _=>cases r;rfl
 |ty _=>cases r;rfl
theorem RelV.inj{x y:V}{u:Value}(r:RelV x u)(q:RelV y u):x=y:=Ab (r.abs.symm.trans q.abs)
theorem y7.inj:∀{xs ys:List V} {us:List Value},y7 xs us->y7 ys us->xs=ys
 |_,_,_, .nil, .nil=>rfl
 |_,_,_, .cons r t, .cons r' t'=>by rw[r.inj r',y7.inj t t']
section
variable {X:Cx} {c7:List (Addr×Obj)} {σ:St} {H:Hp} {s:Shared} {a:Addr} {xs ys:List V}
theorem o6.of{K:n9}(h:H a=some (.lst xs)):o6 K H a xs:= .inl (.inl h)
theorem AG.of{K:n9}(h:H a=some (.tup xs)):AG K H a xs:= .inl (.inl h)
theorem Inw.list(I:Inw X c7 σ H s)(h:o6 X.K H a xs):∃A0:List Value,y7 xs A0/\PlainL s.heap a A0.toArray/\xs.length<=sizeLine:=by
 rcases h with h|⟨o,A0,n,hk,hc,hd,hs,hz,r⟩
 ·obtain⟨z,A0,n,r,e⟩:=h.ok I.hok
  exact⟨A0,r,⟨_,n,e,rfl,rfl,rfl⟩,z⟩
 ·refine⟨A0.toList,r,⟨o,n,I.kIn a o hk,hc,hd,by simpa using hs⟩,?_⟩
  have e:=r.length
  simp only[CD] at e
  omega
theorem Inw.tuple(I:Inw X c7 σ H s)(h:AG X.K H a xs):∃A0:List Value,y7 xs A0/\IsTup s.heap a A0.toArray/\xs.length<=sizeLine:=by
 rcases h with h|⟨o,A0,n,hk,hc,hs,hz,r⟩
 ·obtain⟨z,A0,r,p⟩:=h.ok I.hok
  exact⟨A0,r,p,z⟩
 ·refine⟨A0.toList,r,⟨o,I.kIn a o hk,hc,n,by simpa using hs⟩,?_⟩
  have e:=r.length
  simp only[CD] at e
  omega
theorem Inw.list_inj(I:Inw X c7 σ H s)(h:o6 X.K H a xs)(h':o6 X.K H a ys):xs=ys:=by
 obtain⟨A0,r,⟨o,n,e,_,_,d⟩,_⟩:=I.list h
 obtain⟨its',r',⟨o',n',e',_,_,d'⟩,_⟩:=I.list h'
 rw[e] at e';cases e'
 rw[d] at d'
 injection d' with d1 _
 have:A0=its':=by simpa using congrArg Array.toList d1
 subst this
 exact r.inj r'
end
abbrev Cx.wish(X:Cx)(E:Value->Shared->Prop):Cx:={X with xe:=E}
abbrev Cx.nox(X:Cx):Cx:=X.wish fun _ _=>False
theorem Cx.Ok.wish{X:Cx}(ok:X.Ok)(E:Value->Shared->Prop):(X.wish E).Ok:=
 ⟨ok.mod,ok.kind,ok.glob,ok.blt,ok.above,ok.inj,ok.has,ok.cab,ok.hd,ok.frames,ok.stk,ok.exf,ok.bs,ok.bsz,ok.noex,ok.exfs,ok.funs,ok.frf⟩
theorem Cx.Ok.unwish{X:Cx}{E:Value->Shared->Prop}(ok:(X.wish E).Ok):X.Ok:=
 ⟨ok.mod,ok.kind,ok.glob,ok.blt,ok.above,ok.inj,ok.has,ok.cab,ok.hd,ok.frames,ok.stk,ok.exf,ok.bs,ok.bsz,ok.noex,ok.exfs,ok.funs,ok.frf⟩
section
variable {X:Cx} {c7:List (Addr×Obj)} {σ:St} {H:Hp} {s:Shared} {E:Value->Shared->Prop}
theorem Inw.wish(I:Inw X c7 σ H s)(E:Value->Shared->Prop):Inw (X.wish E) c7 σ H s:=⟨I.ok.wish E,I.os,I.bare,I.base,I.loc,I.cell,I.free,I.freeC,I.pin,I.hok,I.len⟩
theorem Inw.unwish(I:Inw (X.wish E) c7 σ H s):Inw X c7 σ H s:=⟨I.ok.unwish,I.os,I.bare,I.base,I.loc,I.cell,I.free,I.freeC,I.pin,I.hok,I.len⟩
theorem SP.unwish{D:Ends}{f:Flow}{s':Shared}(h:SP (X.wish E) c7 D f s'):SP X c7 D f s':=by
 cases f with
 |next=>obtain⟨σ',H',I,q⟩:=h;exact⟨σ',H',I.unwish,q⟩
 |brk=>obtain⟨σ',H',I,q⟩:=h;exact⟨σ',H',I.unwish,q⟩
 |cont=>obtain⟨σ',H',I,q⟩:=h;exact⟨σ',H',I.unwish,q⟩
 |ret u=>obtain⟨v,σ',H',I,r,q⟩:=h;exact⟨v,σ',H',I.unwish,r,q⟩
theorem Mb.nox{st:List Stmt}{t:TS}(h:Mb X.nox st t):Mb X st t:=fun c7 s σ H D I hw=>
 U2 (h c7 s σ H D ⟨I.wish _,I.pos⟩ hw) (fun _ _ q=>q.unwish) fun _ _ z=>False.elim z
end
section
variable {X:Cx} {st:Stmt} {Av:List Stmt} {t u:TS} {e:Expr} {te:TE} {pos:Pos}
def RG:TS:=fun D σ H=>D.nx σ H
def Wm(t u:TS):TS:=fun D σ H=>t {D with nx:=u D} σ H
theorem o7:Mb X [] RG:=fun _ _ σ H _ I h=>Pr ⟨σ,H,I,h⟩
theorem c6(h1:PS X st t)(h2:Mb X Av u):Mb X (st::Av) (Wm t u):=by
 intro c7 s σ H D I h
 refine Vi (P0 (h1 c7 s σ H {D with nx:=u D} I h) fun f s1 q=> ?_)
 cases f with
 |next=>
  obtain⟨σ',H',I',q⟩:=q
  exact h2 c7 s1 σ' H' D I' q
 |ret v=>exact Rf.w q
 |brk=>exact Rf.w q
 |cont=>exact Rf.w q
theorem e7(h1:PS X st t):Mb X [st] t:=by
 intro c7 s σ H D I h
 refine Vi (PN (h1 c7 s σ H D I h) fun f s1 q=> ?_)
 cases f with
 |next=>exact Pr q
 |ret v=>exact q
 |brk=>exact q
 |cont=>exact q
theorem Inw.quiet{c7:List (Addr×Obj)}{σ:St}{H:Hp}{s:Shared}(I:Inw X c7 σ H s):interactive X.env=false:=by simp [interactive,I.ok.kind]
def RJ(te:TE):TS:=fun D σ H=>te σ H fun _ H1=>D.nx σ H1
theorem q0(he:PE X e te)(hs:swapsWith e none pos.line X.env=pure false:=by rfl):PS X (.Expr e pos) (RJ te):=by
 intro c7 s σ H D I h
 exact wpAny_Expr_any (P0 (he c7 s σ H _ I h) fun v s1 ⟨x,H1,I1,r1,q1⟩=>⟨σ,H1,I1,q1⟩) I.quiet hs
def Zn(te:TE):TS:=fun D σ H=>te σ H D.rt
theorem l6(he:PE X e te):PS X (.Return (some e) pos) (Zn te):=by
 intro c7 s σ H D I h
 exact wpAny_Return_some (P0 (he c7 s σ H _ I h) fun v s1 ⟨x,H1,I1,r1,q1⟩=>⟨x,σ,H1,I1,r1,q1⟩)
def Zq(c:TT)(t u:TS):TS:=fun D σ H=>c σ H fun b H1=>if b=true then t D σ H1 else u D σ H1
theorem C4{c:Expr}{a b:List Stmt}{tc:TT}(hc:PT X c tc)(ha:Mb X a t)(hb:Mb X b u):PS X (.If c a b pos) (Zq tc t u):=by
 intro c7 s σ H D I h
 refine wpAny_If (P0 (hc c7 s σ H _ I h) fun d s1 ⟨H1,I1,q1⟩=> ?_)
 cases d with
 |true=>exact ha c7 s1 σ H1 D I1 q1
 |false=>exact hb c7 s1 σ H1 D I1 q1
end
abbrev TG:=V->St->Hp->(St->Hp->Prop)->Prop
abbrev XI:=List V->St->Hp->(St->Hp->Prop)->Prop
def PG(X:Cx)(target:Expr)(t:TG):Prop:=
 ∀(c7:List (Addr×Obj)) (s:Shared) (σ:St) (H:Hp) (v:V) (u:Value) (Q:St->Hp->Prop),Inv X c7 σ H s->RelV v u->t v σ H Q->
  wpAny (model X.prog X.w) X.A (assign target X.env u) (fun _ s'=>∃σ' H',Inw X c7 σ' H' s'/\Q σ' H') X.xe s
def PGs(X:Cx)(ts:List Expr)(t:XI):Prop:=
 ∀(c7:List (Addr×Obj)) (s:Shared) (σ:St) (H:Hp) (vs:List V) (us:List Value) (Q:St->Hp->Prop),Inv X c7 σ H s->y7 vs us->t vs σ H Q->
  wpAny (model X.prog X.w) X.A (assignInOrder ((assignEach ts X.env).map (·.2)) us) (fun _ s'=>∃σ' H',Inw X c7 σ' H' s'/\Q σ' H') X.xe s
abbrev Qbu:=V->V->V->Hp->(Hp->Prop)->Prop
def Qc6(X:Cx)(t:Qbu):Prop:=
 ∀(c7:List (Addr×Obj)) (s:Shared) (σ:St) (H:Hp) (o i v:V) (ov iv u:Value) (Q:Hp->Prop),Inv X c7 σ H s->RelV o ov->RelV i iv->RelV v u->t o i v H Q->
  wpAny (model X.prog X.w) X.A (setItem ov iv u) (fun _ s'=>∃H',Inw X c7 σ H' s'/\Q H') X.xe s
abbrev TIp:=V->V->Hp->VK->Prop
def PIp(X:Cx)(op:Operator)(t:TIp):Prop:=
 ∀(c7:List (Addr×Obj)) (s:Shared) (σ:St) (H:Hp) (x y:V) (v u:Value) (Q:VK),Inv X c7 σ H s->RelV x v->RelV y u->t x y H Q->
  wpAny (model X.prog X.w) X.A (inplaceOp op v u) (EP X c7 σ Q) X.xe s
section
variable {X:Cx} {pos:Pos}
def BU(i:Nat):TG:=fun v σ H Q=>Q (σ.set i (some v)) H
theorem j5{i:Nat}{x:Str}(hN:X.N.Nodup)(hi:X.N[i]? =some x)(hx:Loc X.env.scope x)(hf:X.fn x=true\/X.env.scope.names.lookup x=some .local:=by first|exact .inl rfl|exact .inr rfl|assumption):PG X (.Name x pos) (BU i):=by
 intro c7 s σ H v u Q I r h
 exact wpAny_assign_Name (DO I hN hi hx r (fun s' I'=>⟨_,H,I',h⟩) hf)
def Qy:XI:=fun vs σ H Q=>vs=[]/\Q σ H
def Gq(t:TG)(u:XI):XI:=fun vs σ H Q=>∃v r,vs=v::r/\t v σ H fun σ' H'=>u r σ' H' Q
theorem P2:PGs X [] Qy:=by
 intro c7 s σ H vs us Q I r h
 obtain⟨e,h⟩:=h
 subst e
 cases r
 exact assignInOrder_nil ⟨σ,H,I,h⟩
theorem o9{e:Expr}{es:List Expr}{t:TG}{u:XI}(h1:PG X e t)(h2:PGs X es u)
  (hs:(assignEach (e::es) X.env).map (·.2)=assign e X.env::(assignEach es X.env).map (·.2):=by rfl):PGs X (e::es) (Gq t u):=by
 intro c7 s σ H vs us Q I r h
 obtain⟨v,vr,e1,h⟩:=h
 subst e1
 cases r with
 |cons r rr=>
  rw[hs]
  refine assignInOrder_cons (P0 (h1 c7 s σ H _ _ _ I r h) fun _ s1 ⟨σ1,H1,I1,q1⟩=> ?_)
  exact h2 c7 s1 σ1 H1 _ _ Q I1 rr q1
def UF(K:n9)(n:Nat)(t:XI):TG:=fun v σ H Q=>∃a xs,v= .ref a/\AG K H a xs/\xs.length=n/\t xs σ H Q
theorem Qaq{es:List Expr}{k:Nat}{t:XI}{n:Nat}(hc:X.calm=true)(h:PGs X es t)
  (hn:(assignEach es X.env).length=n:=by rfl)(Gj:(assignEach es X.env).findIdx? (·.1)=none:=by rfl):PG X (.Tuple es k pos) (UF X.K n t):=by
 intro c7 s σ H v u Q I r hw
 obtain⟨a,xs,e1,hq,hl,hw⟩:=hw
 subst e1
 cases r
 obtain⟨A0,rv,ht,hz⟩:=I.tuple hq
 refine assign_Tuple_tuple (I.ok.hd hc) ht (by simp [hn,<-hl,rv.length]) Gj fun h' hx=> ?_
 have I1:Inw X c7 σ H {s with heap:=h'}:=I.kept (t':=s.toks) fun b o e=>hx b o (M7 (O9 e)) e
 exact h c7 _ σ H xs _ Q ⟨I1,I.pos⟩ (by simpa using rv) hw
def Qbk(to ti:TE)(t:Qbu):TG:=fun v σ H Q=>to σ H fun o H1=>ti σ H1 fun i H2=>t o i v H2 fun H3=>Q σ H3
theorem Qar{o i:Expr}{to ti:TE}{t:Qbu}(ho:PE X o to)(hi:PE X i ti)(hs:Qc6 X t)
  (ha:∀v,assign (.Subscript o i pos) X.env v=(do
   let ov<-holding [v] (eval o X.env)
   let iv<-holding [v,ov] (eval i X.env)
   standAt pos
   holding [v,ov,iv] (setItem ov iv v)
   release [v,ov,iv] []):=by intro _;rfl):PG X (.Subscript o i pos) (Qbk to ti t):=by
 intro c7 s σ H v u Q I r h
 rw[ha]
 refine x6 (Ix (P0 (ho c7 s σ H _ I h) fun ov s1 ⟨x,H1,I1,r1,q1⟩=> ?_))
 refine x6 (Ix (P0 (hi c7 s1 σ H1 _ I1 q1) fun iv s2 ⟨y,H2,I2,r2,q2⟩=> ?_))
 refine x6 (Vh (x6 (Ix (P0 (hs c7 s2 σ H2 x y v ov iv u _ I2 r1 r2 r q2) fun _ s3 ⟨H3,I3,q3⟩=> ?_))))
 exact wpAny_release ⟨σ,H3,I3,q3⟩
def PP(te:TE)(g:TG):TS:=fun D σ H=>te σ H fun x H1=>g x σ H1 D.nx
theorem Qan{tg e:Expr}{te:TE}{g:TG}(he:PE X e te)(hg:PG X tg g)(hs:swapsWithSole [tg] e pos.line X.env=pure false:=by rfl)(hw:swappedStores [tg] e X.env=pure none:=by rfl)
  (h1:(assignEach [tg] X.env).map (·.2)=[assign tg X.env]:=by rfl):PS X (.Assign [tg] e pos) (PP te g):=by
 intro c7 s σ H D I h
 refine wpAny_Assign_stores (P0 (he c7 s σ H _ I h) fun v s1 ⟨x,H1,I1,r1,q1⟩=> ?_) hs hw
 rw[h1]
 exact PN (hg c7 s1 σ H1 x v _ I1 r1 q1) fun _ s2 q=>q
theorem i8{i:Nat}{x:Str}{e:Expr}{te:TE}{pos':Pos}(hN:X.N.Nodup)(hi:X.N[i]? =some x)(hx:Loc X.env.scope x)(he:PE X e te)(hs:swapsWith e (some (.Name x pos')) pos.line X.env=pure false:=by rfl)(hf:X.fn x=true\/X.env.scope.names.lookup x=some .local:=by first|exact .inl rfl|exact .inr rfl|assumption):
  PS X (.Assign [.Name x pos'] e pos) (PP te (BU i)):=by
 intro c7 s σ H D I h
 refine wpAny_Assign_Name (P0 (he c7 s σ H _ I h) fun v s1 ⟨y,H1,I1,r1,q1⟩=> ?_) hs
 exact DO I1 hN hi hx r1 (fun s2 I2=>⟨_,H1,I2,q1⟩) hf
def Wo(i:Nat)(te:TE)(ti:TIp):TS:=fun D σ H=>∃x,σ[i]? =some (some x)/\te σ H fun y H1=>ti x y H1 fun z H2=>D.nx (σ.set i (some z)) H2
theorem MH{i:Nat}{x:Str}{e:Expr}{te:TE}{op:Operator}{ti:TIp}{pos':Pos}(hN:X.N.Nodup)(hi:X.N[i]? =some x)(hx:Loc X.env.scope x)(he:PE X e te)(ho:PIp X op ti)(hf:X.fn x=true\/X.env.scope.names.lookup x=some .local:=by first|exact .inl rfl|exact .inr rfl|assumption):
  PS X (.AugAssign (.Name x pos') op e pos) (Wo i te ti):=by
 intro c7 s σ H D I h
 obtain⟨v,e1,h⟩:=h
 obtain⟨m,hn,hl⟩:=I.loc
 have vis:Vis X.env.scope x:=by rcases hx with k|k;exact .inl k;exact .inr (.inl k)
 obtain⟨u,r,l⟩:=hl i x v hi e1 vis
 refine wpAny_AugAssign_Name ?_
 have go:wpAny (model X.prog X.w) X.A (eval e X.env) (fun w s₂=>wpAny (model X.prog X.w) X.A (inplaceOp op u w) (fun r s₃=>wpAny (model X.prog X.w) X.A (storeName X.env x r) (fun _=>SP X c7 D .next) X.xe s₃) X.xe s₂) X.xe s:=by
  refine P0 (he c7 s σ H _ I h) fun w s1 ⟨y,H1,I1,r1,q1⟩=> ?_
  refine P0 (ho c7 s1 σ H1 v y u w _ I1 r r1 q1) fun z s2 ⟨zv,H2,I2,r2,q2⟩=> ?_
  exact DO I2 hN hi hx r2 (fun s3 I3=>⟨_,H2,I3,q2⟩) hf
 rcases l with ⟨hk,hm⟩|⟨hk,c,hc,hcell⟩
 ·exact Vl I.ok.kind hk hn hm go
 ·rcases hk with hk|hk
  ·exact wpAny_loadName_cell I.ok.kind hk hc hcell go
  ·rcases hx with k|k
   ·have:X.env.scope.names.lookup x=some .free:=hk
    rw[k] at this;cases this
   ·have:X.env.scope.names.lookup x=some .free:=hk
    rw[k] at this;cases this
def ipI(f:Int->Int->Int):TIp:=fun x y H Q=>∃i j,x= .int i/\y= .int j/\Q (.int (f i j)) H
theorem Um:PIp X .Add (ipI fun i j=>i+j):=by
 intro c7 s σ H x y v u Q I r1 r2 h
 obtain⟨i,j,e1,e2,q⟩:=h
 subst e1;subst e2
 obtain⟨t,rfl⟩:=r1
 obtain⟨t',rfl⟩:=r2
 exact iadd_int ⟨.int _,H,I.tok _,⟨_,rfl⟩,q⟩
end
section
variable {X:Cx} {pos:Pos}
def Ml(c:TT)(tb:TS):TS:=fun D σ H=>∃W:Nat->St->Hp->Prop,(∃m,W m σ H)/\∀m σ H,W m σ H->
 c σ H fun b H1=>if b=true then ∃N:St->Hp->Prop,(∀σ' H',N σ' H'->∃m',m'<m/\W m' σ' H')/\tb {D with nx:=N,ct:=N,bk:=D.nx} σ H1 else D.nx σ H1
theorem V5{c:Expr}{body:List Stmt}{tc:TT}{tb:TS}(hp:PassesOwn (model X.prog X.w) X.A X.env X.xe)(hc:PT X c tc)(hb:Mb X body tb):PS X (.While c body [] pos) (Ml tc tb):=by
 intro c7 s σ H D I h
 obtain⟨W,⟨m0,w0⟩,turn⟩:=h
 refine wpAny_While (codeAny_whileLoop (fun n s'=>∃σ' H',Inv X c7 σ' H' s'/\W n σ' H') ?_ m0 ⟨σ,H,I,w0⟩)
 rintro n s1 ⟨σ1,H1,I1,w1⟩
 refine GL hp (P0 (hc c7 s1 σ1 H1 _ I1 (turn n σ1 H1 w1)) fun b s2 ⟨H2,I2,q2⟩=> ?_)
 cases b with
 |true=>
  obtain⟨N,hN,q2⟩:=q2
  rw[if_pos rfl]
  refine GL hp (P0 (hb c7 s2 σ1 H2 _ I2 q2) fun f s3 q3=> ?_)
  cases f with
  |next=>
   obtain⟨σ3,H3,I3,n3⟩:=q3
   obtain⟨m',hm,w3⟩:=hN σ3 H3 n3
   exact⟨m',hm,σ3,H3,I3,w3⟩
  |cont=>
   obtain⟨σ3,H3,I3,n3⟩:=q3
   obtain⟨m',hm,w3⟩:=hN σ3 H3 n3
   exact⟨m',hm,σ3,H3,I3,w3⟩
  |brk=>exact Rf.w q3
  |ret v=>exact Rf.w q3
 |false=>
  rw[if_neg Ac]
  exact Pr ⟨σ1,H2,I2,q2⟩
end
structure It where
 go:Nat->Hp->Prop
 yld:Nat->Hp->V->Hp->Prop
 stop:Nat->Hp->Prop
def EW(X:Cx)(c7:List (Addr×Obj))(H:Hp)(b:Addr):Prop:=
 H b=none/\b≠X.env.locals/\b∉X.fs/\(b∈X.ex\/X.s₀.heap.objs.size<=b)/\(∀x c,X.env.cells.lookup x=some c->c≠b)/\∀p∈X.pn++c7,p.1≠b
theorem Inw.fpOk{X:Cx}{c7:List (Addr×Obj)}{σ:St}{H H':Hp}{s:Shared}{b:Addr}(I:Inw X c7 σ H s)(hb:s.heap.objs.size<=b)(hn:H' b=none):EW X c7 H' b:=by
 refine⟨hn,Iw (U4 I.lt hb),I.nofs hb, .inr (Ad I.sz hb),fun x c e z=> ?_,fun p hp z=> ?_⟩
 ·obtain⟨v,q⟩:=I.cell x c e
  exact absurd (U4 q.lt (by rw[z];exact hb)) (Di _)
 ·exact absurd (U4 (O9 (I.pin p hp).1) (by rw[z];exact hb)) (Di _)
structure Turn(P:Program)(w:World)(K:n9)(tg:Expr)(J:It)(fp:List Addr)(it:Addr)(tn:Nat->Heap->Prop):Prop where
 mem:it∈fp
 obj:∀i h,tn i h->∀b∈fp,∃o,h.get? b=some o/\∀v,o.data≠ .cell v
 keep:∀i h h',tn i h->(∀b∈fp,∀o,h.get? b=some o->h'.get? b=some o)->tn i h'
 item:∀(X:Cx),X.prog=P->X.w=w->X.K=K->X.calm=true->∀(i:Nat) (c7:List (Addr×Obj)) (s:Shared) (σ:St) (H:Hp) (E:Value->Shared->Prop),Inv X c7 σ H s->(∀b∈fp,EW X c7 H b)->tn i s.heap->J.go i H->
  wpAny (model P w) X.A (pyNext (.ref it)) (fun r s1=>∃u,r=some u/\
   wpAny (model P w) X.A (letOwnedTupleGo tg (.ref it) u) (fun _ s2=>∃x H',Inw X c7 σ H' s2/\RelV x u/\J.yld i H x H'/\tn (i+1) s2.heap/\∀b∈fp,H' b=none) E s1) E s
 done:∀(X:Cx),X.prog=P->X.w=w->X.K=K->X.calm=true->∀(i:Nat) (c7:List (Addr×Obj)) (s:Shared) (σ:St) (H:Hp) (E:Value->Shared->Prop),Inv X c7 σ H s->(∀b∈fp,EW X c7 H b)->tn i s.heap->J.stop i H->
  wpAny (model P w) X.A (pyNext (.ref it)) (fun r s1=>r=none/\Inw X c7 σ H s1) E s
 self:∀(A:Around) (i:Nat) (s:Shared) (Q:Value->Shared->Prop) (E:Value->Shared->Prop),tn i s.heap->Q (.ref it) s->wpAny (model P w) A (pyIter (.ref it)) Q E s
abbrev TI:=St->Hp->(It->Hp->Prop)->Prop
def PIE(X:Cx)(c7:List (Addr×Obj))(σ:St)(tg:Expr)(R:It->Hp->Prop)(itv:Value)(s2:Shared):Prop:=
 ∃(it:Addr) (fp:List Addr) (tn:Nat->Heap->Prop) (J:It) (H':Hp),itv= .ref it/\Inw X c7 σ H' s2/\Turn X.prog X.w X.K tg J fp it tn/\tn 0 s2.heap/\(∀b∈fp,EW X c7 H' b)/\R J H'
def PI(X:Cx)(tg iter:Expr)(wi:TI):Prop:=
 ∀(c7:List (Addr×Obj)) (s:Shared) (σ:St) (H:Hp) (R:It->Hp->Prop),Inv X c7 σ H s->wi σ H R->
  wpAny (model X.prog X.w) X.A (eval iter X.env) (fun v s1=>wpAny (model X.prog X.w) X.A (pyIter v) (PIE X c7 σ tg R) X.xe s1) X.xe s
theorem Lq{M:Model}{A:Around}{E:Value->Shared->Prop}{s:Shared}{tg:Expr}{it:Addr}{u:Value}{o:Obj}{n:String}{vs:Array Value}{Q:Unit->Shared->Prop}(ho:s.heap.get? it=some o)(hc:o.cls= .type n)(hd:o.data= .fields vs)
  (hn:["enumerate","zip","dict_itemiterator","dict_reverseitemiterator","odict_iterator","itertools.zip_longest","itertools.pairwise"].contains n=false)(hQ:Q () s):wpAny M A (letOwnedTupleGo tg (.ref it) u) Q E s:=by
 unfold letOwnedTupleGo
 cases tg<;>first
  |exact J3 hQ
  |(cases u<;>first
    |exact J3 hQ
    |(refine x6 (wpAny_load ho ?_)
      rw[hc,hd]
      show wpAny M A (if (["enumerate","zip","dict_itemiterator","dict_reverseitemiterator","odict_iterator","itertools.zip_longest","itertools.pairwise"].contains n&&vs[0]? ==some (rawInt _))=true then _ else _) Q E s
      rw[if_neg (by intro h;rw[hn,Bool.false_and] at h;cases h)]
      exact J3 hQ))
def VT(K:n9)(a:Addr):It:=
 ⟨fun i H=>∃xs x,o6 K H a xs/\xs[i]? =some x,fun i H x H'=>H'=H/\∀xs,o6 K H a xs->xs[i]? =some x,fun i H=>∃xs,o6 K H a xs/\xs.length<=i⟩
def Rg(lo:Int)(n:Nat):It:=⟨fun i _=>i<n,fun i H x H'=>H'=H/\x= .int (lo+i),fun i _=>n<=i⟩
theorem PJ{P:Program}{w:World}{K:n9}{tg:Expr}(a it:Addr):Turn P w K tg (VT K a) [it] it (fun i h=>h.IsListIter it a i) where
 mem:=by simp
 obj:=fun i h st b hb=>by
  have e:b=it:=by simpa using hb
  subst e
  obtain⟨o,e,c,d⟩:=st
  exact⟨o,e,fun v z=>by rw[d] at z;cases z⟩
 keep:=fun i h h' st k=>st.at fun o e=>k it (by simp) o e
 item:=by
  intro X hP hw hK hc i c7 s σ H E I hf st hg
  subst hP hw hK
  obtain⟨xs,x,hq,hx⟩:=hg
  obtain⟨A0,rv,p,hz⟩:=I.list hq
  obtain⟨u,hu,ru⟩:=rv.get hx
  obtain⟨f0,f1,f2,f3,f4,f5⟩:=hf it (by simp)
  refine wpAny_pyNext_list_item st p.isList (x:=u) (by simpa using hu) fun h' st' sb=> ?_
  have I1:Inw X c7 σ H {s with heap:=h'}:=I.turned (t':=s.toks) (fun b o hb e=>(sb.2 b hb).trans e) f0 f1 f3 f4 f5
  obtain⟨o,e,c,d⟩:=id st'
  exact⟨u,rfl,Lq (s:={s with heap:=h'}) e c d (by decide) ⟨x,H,I1,ru,⟨rfl,fun ys hy=>by rw[I.list_inj hy hq];exact hx⟩,st',fun b hb=>(hf b hb).1⟩⟩
 done:=by
  intro X hP hw hK hc i c7 s σ H E I hf st hg
  subst hP hw hK
  obtain⟨xs,hq,hx⟩:=hg
  obtain⟨A0,rv,p,hz⟩:=I.list hq
  obtain⟨f0,f1,f2,f3,f4,f5⟩:=hf it (by simp)
  have hl:=rv.length
  exact wpAny_pyNext_list_end (I.ok.hd hc) st p.isList (by simp;omega) fun h' eb=>⟨rfl,I.turned (t':=s.toks) (fun b o hb e=>eb b o hb e) f0 f1 f3 f4 f5⟩
 self:=fun _ _ _ _ _ st h=>wpAny_pyIter_listiter st h
theorem Mf{P:Program}{w:World}{K:n9}{tg:Expr}(it:Addr)(lo:Int)(n:Nat):Turn P w K tg (Rg lo n) [it] it (fun i h=>IsRangeIter h it (lo+(i:Nat)*1) ((n:Int)-(i:Nat)) 1) where
 mem:=by simp
 obj:=fun i h st b hb=>by
  have e:b=it:=by simpa using hb
  subst e
  exact⟨_,st,fun v z=>by
   have z':Data.fields _=Data.cell v:=z
   cases z'⟩
 keep:=fun i h h' st k=>k it (by simp) _ st
 item:=by
  intro X hP hw hK hc i c7 s σ H E I hf st hg
  subst hP hw hK
  obtain⟨f0,f1,f2,f3,f4,f5⟩:=hf it (by simp)
  have W:=Walks.range (prog:=X.prog) (w:=X.w) (I.ok.hd hc) it lo 1 n
  refine W.item i s _ _ hg st fun v h' tk hv st' kk=> ?_
  obtain⟨t,rfl⟩:=hv
  have I1:Inw X c7 σ H {s with heap:=h',toks:=tk}:=I.turned (fun b o hb e=>kk b o (by simpa using hb) e) f0 f1 f3 f4 f5
  refine⟨_,rfl,Lq (s:={s with heap:=h',toks:=tk}) (n:="range_iterator") st' rfl rfl (by decide) ⟨.int (lo+i),H,I1,⟨t,?_⟩,⟨rfl,rfl⟩,st',fun b hb=>(hf b hb).1⟩⟩
  rw[Int.mul_one]
 done:=by
  intro X hP hw hK hc i c7 s σ H E I hf st hg
  subst hP hw hK
  obtain⟨f0,f1,f2,f3,f4,f5⟩:=hf it (by simp)
  exact wpAny_pyNext_range_end (I.ok.hd hc) st (by have:n<=i:=hg;omega) fun h' eb=>⟨rfl,I.turned (t':=s.toks) (fun b o hb e=>eb b o hb e) f0 f1 f3 f4 f5⟩
 self:=fun _ _ _ _ _ st h=>wpAny_pyIter_rangeiter st h
section
variable {X:Cx} {tg:Expr}
def OQ(K:n9)(tl:TE):TI:=fun σ H R=>tl σ H fun x H1=>∃a,x= .ref a/\(∃xs,o6 K H1 a xs)/\R (VT K a) H1
theorem WI{l:Expr}{tl:TE}(hl:PE X l tl):PI X tg l (OQ X.K tl):=by
 intro c7 s σ H R I h
 refine P0 (hl c7 s σ H _ I h) fun v s1 ⟨x,H1,I1,r1,q1⟩=> ?_
 obtain⟨a,e,⟨xs,hq⟩,q⟩:=q1
 subst e
 cases r1
 obtain⟨A0,rv,p,hz⟩:=I1.list hq
 refine Vg p.isList ?_
 refine⟨s1.heap.objs.size,[s1.heap.objs.size],_,_,H1,rfl,I1.kept (t':=s1.toks) fun b o e=>Q2 _ e,PJ a _,⟨_,W8 _ rfl,rfl,rfl⟩,fun b hb=> ?_,q⟩
 have e:b=s1.heap.objs.size:=by simpa using hb
 subst e
 exact I1.fpOk (l9 _) (I1.hok.fresh (l9 _))
theorem SY{c7:List (Addr×Obj)}{σ:St}{H:Hp}{s:Shared}{R:It->Hp->Prop}{E:Value->Shared->Prop}{lo hi:Int}{t u v:Tok}{tk:Nat}(I:Inv X c7 σ H s)(h1: -(2^62)<=lo)(h2:lo<2^62)(h3: -(2^62)<=hi)(h4:hi<2^62)
  (q:R (Rg lo (hi-lo).toNat) H):wpAny (model X.prog X.w) X.A (pyIter (.ref s.heap.objs.size)) (PIE X c7 σ tg R) E {s with heap:=s.heap.push {cls:= .type "range",data:= .fields #[.int lo t, .int hi u, .int 1 v]},toks:=tk}:=by
 refine wpAny_pyIter_range (IsRange.new ..) (small_one h1 h2 h3 h4) ?_
 have I1:Inw X c7 σ H {s with heap:=s.heap.push {cls:= .type "range",data:= .fields #[.int lo t, .int hi u, .int 1 v]},toks:=tk}:=I.kept fun b o e=>Q2 _ e
 refine⟨(s.heap.push {cls:= .type "range",data:= .fields #[.int lo t, .int hi u, .int 1 v]}).objs.size,[(s.heap.push {cls:= .type "range",data:= .fields #[.int lo t, .int hi u, .int 1 v]}).objs.size],_,_,H,rfl,
  I1.kept (t':=tk) fun b o e=>Q2 _ e,Mf _ lo (hi-lo).toNat,?_,fun b hb=> ?_,q⟩
 ·have e1:lo+((0:Nat):Int)*1=lo:=by simp
  have e2:(((hi-lo).toNat:Nat):Int)-((0:Nat):Int)=Builtin.Range.rangeSize lo hi 1:=by rw[rangeSize_one];split<;>omega
  show IsRangeIter _ _ (lo+((0:Nat):Int)*1) ((((hi-lo).toNat:Nat):Int)-((0:Nat):Int)) 1
  rw[e1,e2]
  exact W8 _ rfl
 ·have e:b=(s.heap.push {cls:= .type "range",data:= .fields #[.int lo t, .int hi u, .int 1 v]}).objs.size:=by simpa using hb
  subst e
  exact I1.fpOk (l9 _) (I1.hok.fresh (l9 _))
def Ur(ta:TA):TI:=fun σ H R=>ta σ H fun vs H1=>∃j:Int,vs=[.int j]/\ -(2^62)<=j/\j<2^62/\R (Rg 0 j.toNat) H1
def YI(ta:TA):TI:=fun σ H R=>ta σ H fun vs H1=>∃i j:Int,vs=[.int i, .int j]/\(-(2^62)<=i/\i<2^62/\ -(2^62)<=j/\j<2^62)/\R (Rg i (j-i).toNat) H1
theorem K4{a:Expr}{ta:TA}{p pos:Pos}(hg:Gl X "range")(hm:X.mg "range"=none)(ha:PA X [a] ta)(hs:starEach [a] X.env=[(false,eval a X.env)]:=by rfl):PI X tg (.Call (.Name "range" p) [a] [] pos) (Ur ta):=by
 intro c7 s σ H R I h
 refine Call_ (Gb I hg hm boot_range (Vf (P0 (ha pos c7 s σ H _ I h) fun us s1 ⟨vs,H1,I1,r1,q1⟩=> ?_) hs rfl))
 obtain⟨j,e,q1,q2,q⟩:=q1
 subst e
 cases r1 with
 |cons r rr=>
  cases rr
  obtain⟨t,rfl⟩:=r
  exact call_range_1 (SY I1 (by omega) (by omega) q1 q2 (by simpa using q))
def QbH(wi:TI)(g:TG)(tb:TS):TS:=fun D σ H=>wi σ H fun J H1=>∃W:Nat->Nat->St->Hp->Prop,(∃m,W 0 m σ H1)/\∀i m σ H,W i m σ H->
 (J.stop i H/\D.nx σ H)\/(J.go i H/\∃N:St->Hp->Prop,(∀σ' H',N σ' H'->∃m',m'<m/\W (i+1) m' σ' H')/\∀x H',J.yld i H x H'->g x σ H' fun σ2 H2=>tb {D with nx:=N,ct:=N,bk:=D.nx} σ2 H2)
def FW(fp:List Addr)(h:Heap):List (Addr×Obj):=fp.filterMap fun b=>(h.get? b).map fun o=>(b,o)
theorem BB{fp:List Addr}{h:Heap}{b:Addr}{o:Obj}(hb:b∈fp)(e:h.get? b=some o):(b,o)∈FW fp h:=YY.mpr ⟨b,hb,by rw[e];rfl⟩
theorem Ql{fp:List Addr}{h:Heap}{p:Addr×Obj}(hp:p∈FW fp h):p.1∈fp/\h.get? p.1=some p.2:=by
 obtain⟨b,hb,e⟩:=YY.mp hp
 cases q:h.get? b with
 |none=>rw[q] at e;cases e
 |some o=>
  rw[q] at e
  have e':(b,o)=p:=Ab e
  subst e'
  exact⟨hb,q⟩
theorem Inw.pinned{c7:List (Addr×Obj)}{σ:St}{H:Hp}{s:Shared}{fp:List Addr}(I:Inw X c7 σ H s)(hf:∀b∈fp,EW X c7 H b)(ho:∀b∈fp,∃o,s.heap.get? b=some o/\∀v,o.data≠ .cell v):Inw X (c7++FW fp s.heap) σ H s:=
 I.pins_of fun p hp=>(U3.mp hp).elim (fun z=>I.pin p (BV _ z)) fun z=>by
  obtain⟨hb,e⟩:=Ql z
  obtain⟨f0,f1,f2,_⟩:=hf p.1 hb
  obtain⟨o,e',d⟩:=ho p.1 hb
  rw[e] at e';cases e'
  exact⟨e,f0,f1,f2,d⟩
theorem Inw.unpinned{c7 pl:List (Addr×Obj)}{σ:St}{H:Hp}{s:Shared}(I:Inw X (c7++pl) σ H s):Inw X c7 σ H s:=I.pins_of fun p hp=>I.pin p (BV _ (Pt _ hp))
theorem x9{iter:Expr}{body:List Stmt}{wi:TI}{g:TG}{tb:TS}{pos:Pos}(hp:PassesOwn (model X.prog X.w) X.A X.env X.xe)(hc:X.calm=true)(hi:PI X tg iter wi)(hg:PG X tg g)(hb:Mb X body tb)
  (hs:∀x,foldedSetIterable iter X.env x=pure x:=by intro _;rfl):PS X (.For tg iter body [] pos) (QbH wi g tb):=by
 intro c7 s σ H D I h
 refine wpAny_For (P0 (hi c7 s σ H _ I h) fun v s1 g1=> ?_) hs
 refine Ki g1.pos g1.run fun itv s2 z2 h2=> ?_
 obtain⟨it,fp,tn,J,H2,e,I2,T,st2,f2,W,⟨m0,w0⟩,turn⟩:=h2
 subst e
 -- what QbJ true of the iterator's objects through the loop
 have stat:∀{H':Hp},(∀b∈fp,H' b=none)->∀b∈fp,EW X c7 H' b:=fun hn b hb=>⟨hn b hb,(f2 b hb).2⟩
 refine codeAny_forLoop_any (fun n s'=>∃i σ' H',Inv X c7 σ' H' s'/\tn i s'.heap/\(∀b∈fp,H' b=none)/\W i n σ' H') ?_ m0 ⟨0,σ,H2,⟨I2,z2⟩,st2,fun b hb=>(f2 b hb).1,w0⟩
 rintro n s3 ⟨i,σ3,H3,I3,st3,fr3,w3⟩
 rcases turn i n σ3 H3 w3 with ⟨stop,qn⟩|⟨go,N,hN,step⟩
 ·refine GL hp (P0 (T.done X rfl rfl rfl hc i c7 s3 σ3 H3 X.xe I3 (stat fr3) st3 stop) fun r s4 ⟨hr,I4⟩=> ?_)
  subst hr
  exact Pr ⟨σ3,H3,I4,qn⟩
 ·refine GL hp (Ki I3.pos (T.item X rfl rfl rfl hc i c7 s3 σ3 H3 X.xe I3 (stat fr3) st3 go) fun r s4 z4 ⟨u,hr,h4⟩=> ?_)
  subst hr
  refine GL hp (Ki z4 h4 fun _ s5 z5 ⟨x,H5,I5,r5,y5,st5,fr5⟩=> ?_)
  have I5':Inv X _ _ _ s5:=⟨I5.pinned (stat fr5) (T.obj _ _ st5),z5⟩
  refine GL hp (P0 (hg _ s5 σ3 H5 x u _ I5' r5 (step x H5 y5)) fun _ s6 ⟨σ6,H6,I6,q6⟩=> ?_)
  refine GL hp (P0 (hb _ s6 σ6 H6 _ I6 q6) fun f s7 q7=> ?_)
  have again:∀{σ7:St} {H7:Hp},Inv X (c7++FW fp s5.heap) σ7 H7 s7->N σ7 H7->∃m,m<n/\∃i σ' H',Inv X c7 σ' H' s7/\tn i s7.heap/\(∀b∈fp,H' b=none)/\W i m σ' H':=fun{σ7 H7} I7 n7=>by
   obtain⟨m',hm,w7⟩:=hN σ7 H7 n7
   refine⟨m',hm,i+1,σ7,H7,⟨I7.unpinned,I7.pos⟩,T.keep _ _ _ st5 fun b hb o e=>(I7.pin (b,o) (BV _ (BV _ (BB hb e)))).1,fun b hb=> ?_,w7⟩
   obtain⟨o,e,d⟩:=T.obj _ _ st5 b hb
   exact(I7.pin (b,o) (BV _ (BV _ (BB hb e)))).2.1
  cases f with
  |next=>obtain⟨σ7,H7,I7,n7⟩:=q7;exact again I7 n7
  |cont=>obtain⟨σ7,H7,I7,n7⟩:=q7;exact again I7 n7
  |brk=>obtain⟨σ7,H7,I7,q7⟩:=q7;exact⟨σ7,H7,I7.unpinned,q7⟩
  |ret v=>obtain⟨x7,σ7,H7,I7,r7,q7⟩:=q7;exact⟨x7,σ7,H7,I7.unpinned,r7,q7⟩
end
theorem UI{K:n9}{a:Addr}{xs:List V}{g:TG}{tb:TS}{D:Ends}{σ:St}{H:Hp}(Pv:Nat->St->Hp->Prop)(h0:Pv 0 σ H)(hl:∀i σ H,i<=xs.length->Pv i σ H->o6 K H a xs)
  (hs:∀i x σ H,xs[i]? =some x->Pv i σ H->g x σ H fun σ2 H2=>tb {D with nx:=Pv (i+1),ct:=Pv (i+1),bk:=D.nx} σ2 H2)(hd:∀σ H,Pv xs.length σ H->D.nx σ H):
  ∃W:Nat->Nat->St->Hp->Prop,(∃m,W 0 m σ H)/\∀i m σ H,W i m σ H->
   ((VT K a).stop i H/\D.nx σ H)\/((VT K a).go i H/\∃N:St->Hp->Prop,(∀σ' H',N σ' H'->∃m',m'<m/\W (i+1) m' σ' H')/\∀x H',(VT K a).yld i H x H'->g x σ H' fun σ2 H2=>tb {D with nx:=N,ct:=N,bk:=D.nx} σ2 H2):=by
 refine⟨fun i m σ H=>m=xs.length-i/\i<=xs.length/\Pv i σ H,⟨xs.length,by simp,x5 _,h0⟩,?_⟩
 rintro i m σ H ⟨rfl,hi,p⟩
 have q:=hl i σ H hi p
 by_cases T8:i<xs.length
 ·refine .inr ⟨⟨xs,xs[i],q,by simp [T8]⟩,Pv (i+1),fun σ' H' p'=>⟨xs.length-(i+1),by omega,rfl,T8,p'⟩,fun x H' y=> ?_⟩
  obtain⟨e,y⟩:=y
  subst e
  exact hs i x σ _ (y xs q) p
 ·have e:i=xs.length:=by omega
  subst e
  exact .inl ⟨⟨xs,q,l9 _⟩,hd σ H p⟩
theorem Qz{lo:Int}{n:Nat}{g:TG}{tb:TS}{D:Ends}{σ:St}{H:Hp}(Pv:Nat->St->Hp->Prop)(h0:Pv 0 σ H)
  (hs:∀i σ H,i<n->Pv i σ H->g (.int (lo+i)) σ H fun σ2 H2=>tb {D with nx:=Pv (i+1),ct:=Pv (i+1),bk:=D.nx} σ2 H2)(hd:∀σ H,Pv n σ H->D.nx σ H):
  ∃W:Nat->Nat->St->Hp->Prop,(∃m,W 0 m σ H)/\∀i m σ H,W i m σ H->
   ((Rg lo n).stop i H/\D.nx σ H)\/((Rg lo n).go i H/\∃N:St->Hp->Prop,(∀σ' H',N σ' H'->∃m',m'<m/\W (i+1) m' σ' H')/\∀x H',(Rg lo n).yld i H x H'->g x σ H' fun σ2 H2=>tb {D with nx:=N,ct:=N,bk:=D.nx} σ2 H2):=by
 refine⟨fun i m σ H=>m=n-i/\i<=n/\Pv i σ H,⟨n,by simp,x5 _,h0⟩,?_⟩
 rintro i m σ H ⟨rfl,hi,p⟩
 by_cases T8:i<n
 ·refine .inr ⟨T8,Pv (i+1),fun σ' H' p'=>⟨n-(i+1),by omega,rfl,T8,p'⟩,fun x H' y=> ?_⟩
  obtain⟨e,y⟩:=y
  subst e y
  exact hs i σ _ T8 p
 ·have e:i=n:=by omega
  subst e
  exact .inl ⟨l9 _,hd σ H p⟩
abbrev R2:=V->V->Hp->VK->Prop
def DE(X:Cx)(f:Value->Value->Sem Value)(r:R2):Prop:=
 ∀(c7:List (Addr×Obj)) (s:Shared) (σ:St) (H:Hp) (x y:V) (v u:Value) (Q:VK),Inv X c7 σ H s->RelV x v->RelV y u->r x y H Q->
  wpAny (model X.prog X.w) X.A (f v u) (EP X c7 σ Q) X.xe s
def UnR(X:Cx)(f:Value->Sem Value)(r:V->Hp->VK->Prop):Prop:=
 ∀(c7:List (Addr×Obj)) (s:Shared) (σ:St) (H:Hp) (x:V) (v:Value) (Q:VK),Inv X c7 σ H s->RelV x v->r x H Q->
  wpAny (model X.prog X.w) X.A (f v) (EP X c7 σ Q) X.xe s
def Ae(X:Cx)(f:Value)(r:List V->Hp->VK->Prop):Prop:=
 ∀(c7:List (Addr×Obj)) (s:Shared) (σ:St) (H:Hp) (xs:List V) (us:List Value) (Q:VK),Inv X c7 σ H s->y7 xs us->r xs H Q->
  wpAny (model X.prog X.w) X.A (call f us) (EP X c7 σ Q) X.xe s
def Qds(X:Cx)(r:V->Hp->(Bool->Hp->Prop)->Prop):Prop:=
 ∀(c7:List (Addr×Obj)) (s:Shared) (σ:St) (H:Hp) (x:V) (v:Value) (Q:Bool->Hp->Prop),Inv X c7 σ H s->RelV x v->r x H Q->
  wpAny (model X.prog X.w) X.A (truthy v) (TP X c7 σ Q) X.xe s
def tOp(r:R2)(ta tb:TE):TE:=fun σ H Q=>ta σ H fun x H1=>tb σ H1 fun y H2=>r x y H2 Q
def tUn(r:V->Hp->VK->Prop)(ta:TE):TE:=fun σ H Q=>ta σ H fun x H1=>r x H1 Q
def rI(C:Int->Int->Prop)(g:Int->Int->V):R2:=fun x y H Q=>∃i j,x= .int i/\y= .int j/\C i j/\Q (g i j) H
def QW(g:Int->Int->V):R2:=fun x y H Q=>∃i j,x= .int i/\y= .int j/\Q (g i j) H
def rU(g:Int->V):V->Hp->VK->Prop:=fun x H Q=>∃i,x= .int i/\Q (g i) H
section
variable {X:Cx} {a b c:Expr} {ta tb tc:TE} {pos:Pos}
theorem Qbs(ha:PE X a ta)(hb:PE X b tb){c7:List (Addr×Obj)}{s:Shared}{σ:St}{H:Hp}{R:V->V->Hp->Prop}(I:Inv X c7 σ H s)
  (h:ta σ H fun x H1=>tb σ H1 fun y H2=>R x y H2){Q:Value->Shared->Prop}{f:Value->Value->Sem Value}
  (hf:∀v u s2 x y H2,Inv X c7 σ H2 s2->RelV x v->RelV y u->R x y H2->wpAny (model X.prog X.w) X.A (f v u) Q X.xe s2):
  wpAny (model X.prog X.w) X.A (eval a X.env) (fun v s₁=>wpAny (model X.prog X.w) X.A (eval b X.env) (fun u s₂=>wpAny (model X.prog X.w) X.A (f v u) Q X.xe s₂) X.xe s₁) X.xe s:=by
 refine P0 (ha c7 s σ H _ I h) fun v s1 ⟨x,H1,I1,r1,q1⟩=> ?_
 refine P0 (hb c7 s1 σ H1 _ I1 q1) fun u s2 ⟨y,H2,I2,r2,q2⟩=> ?_
 exact hf v u s2 x y H2 I2 r1 r2 q2
theorem k8{op:Operator}{r:R2}(ho:DE X (binaryOp op) r)(ha:PE X a ta)(hb:PE X b tb):PE X (.BinOp a op b pos) (tOp r ta tb):=by
 intro c7 s σ H Q I h
 exact wpAny_BinOp (Qbs ha hb I h fun v u s2 x y H2 I2 rx ry q=>ho c7 s2 σ H2 x y v u Q I2 rx ry q)
theorem HU{op:UnaryOp}{r:V->Hp->VK->Prop}(ho:UnR X (unaryOp op) r)(ha:PE X a ta):PE X (.UnaryOp op a pos) (tUn r ta):=by
 intro c7 s σ H Q I h
 exact UnaryOp_ (P0 (ha c7 s σ H _ I h) fun v s1 ⟨x,H1,I1,r1,q1⟩=>ho c7 s1 σ H1 x v Q I1 r1 q1)
theorem opI{f:Value->Value->Sem Value}{C:Int->Int->Prop}{g:Int->Int->Int}
  (rule:∀(i j:Int) (t u:Tok) (s:Shared) (Q:Value->Shared->Prop) (E:Value->Shared->Prop),C i j->Q (.int (g i j) s.toks) {s with toks:=s.toks+1}->wpAny (model X.prog X.w) X.A (f (.int i t) (.int j u)) Q E s):
  DE X f (rI C fun i j=> .int (g i j)):=by
 intro c7 s σ H x y v u Q I rx ry h
 obtain⟨i,j,rfl,rfl,hc,q⟩:=h
 obtain⟨t,rfl⟩:=rx
 obtain⟨t',rfl⟩:=ry
 exact rule i j t t' s _ _ hc ⟨.int (g i j),H,I.tok _,⟨_,rfl⟩,q⟩
theorem Qb9{f:Value->Value->Sem Value}{g:Int->Int->Int}
  (rule:∀(i j:Int) (t u:Tok) (s:Shared) (Q:Value->Shared->Prop) (E:Value->Shared->Prop),Q (.int (g i j) s.toks) {s with toks:=s.toks+1}->wpAny (model X.prog X.w) X.A (f (.int i t) (.int j u)) Q E s):
  DE X f (QW fun i j=> .int (g i j)):=by
 intro c7 s σ H x y v u Q I rx ry h
 obtain⟨i,j,rfl,rfl,q⟩:=h
 obtain⟨t,rfl⟩:=rx
 obtain⟨t',rfl⟩:=ry
 exact rule i j t t' s _ _ ⟨.int (g i j),H,I.tok _,⟨_,rfl⟩,q⟩
theorem WM{f:Value->Value->Sem Value}{g:Int->Int->Bool}
  (rule:∀(i j:Int) (t u:Tok) (s:Shared) (Q:Value->Shared->Prop) (E:Value->Shared->Prop),Q (.bool (g i j)) s->wpAny (model X.prog X.w) X.A (f (.int i t) (.int j u)) Q E s):
  DE X f (QW fun i j=> .bl (g i j)):=by
 intro c7 s σ H x y v u Q I rx ry h
 obtain⟨i,j,rfl,rfl,q⟩:=h
 obtain⟨t,rfl⟩:=rx
 obtain⟨t',rfl⟩:=ry
 exact rule i j t t' s _ _ ⟨.bl (g i j),H,I,rfl,q⟩
def Qdw(i j:Int):Prop:=0<j/\j<1073741824
def Qdv(i j:Int):Prop:=0<=j/\j<=1000000/\i.natAbs<2^64
def VU(i j:Int):Prop:=(-(2^64)<i/\i<2^64)\/(-(2^64)<j/\j<2^64)
theorem VU.ok{i j:Int}(h:VU i j):IntMulOk i j:=by
 rcases h with ⟨h1,h2⟩|⟨h1,h2⟩
 ·exact .of_left (intBits_le_64 h1 h2)
 ·exact .of_right (intBits_le_64 h1 h2)
theorem K6:DE X (binaryOp .Add) (QW fun i j=> .int (i+j)):=Qb9 fun _ _ _ _ _ _ _ q=>add_int q
theorem Cs:DE X (binaryOp .Sub) (QW fun i j=> .int (i-j)):=Qb9 fun _ _ _ _ _ _ _ q=>sub_int q
theorem AZ:DE X (binaryOp .Mult) (rI VU fun i j=> .int (i*j)):=opI fun _ _ _ _ _ _ _ hc q=>mul_int q hc.ok
theorem X8:DE X (binaryOp .FloorDiv) (rI Qdw fun i j=> .int (i/j)):=opI fun i j _ _ _ _ _ hc q=>by
 have h1:(0:Int)<j:=hc.1
 have h2:j<1073741824:=hc.2
 exact floordiv_int (by omega) (by rw[YX i (by omega)];exact q) (.inl (PyProof.noPylong_small (by omega)))
theorem E9:DE X (binaryOp .Mod) (rI (fun _ j=>0<j) fun i j=> .int (i % j)):=opI fun i j _ _ _ _ _ hc q=>by
 have h1:(0:Int)<j:=hc
 exact mod_int' (by omega) (by rw[Int.fmod_eq_emod_of_nonneg i (by omega)];exact q)
theorem Qau:DE X (binaryOp .Pow) (rI Qdv fun i j=> .int (i^j.toNat)):=opI fun _ _ _ _ _ _ _ hc q=>pow_int_small hc.1 hc.2.1 hc.2.2 q
theorem unI{f:Value->Sem Value}{g:Int->Int}
  (rule:∀(i:Int) (t:Tok) (s:Shared) (Q:Value->Shared->Prop) (E:Value->Shared->Prop),Q (.int (g i) s.toks) {s with toks:=s.toks+1}->wpAny (model X.prog X.w) X.A (f (.int i t)) Q E s):
  UnR X f (rU fun i=> .int (g i)):=by
 intro c7 s σ H x v Q I rx h
 obtain⟨i,rfl,q⟩:=h
 obtain⟨t,rfl⟩:=rx
 exact rule i t s _ _ ⟨.int (g i),H,I.tok _,⟨_,rfl⟩,q⟩
theorem Er:UnR X (unaryOp .USub) (rU fun i=> .int (-i)):=unI fun _ _ _ _ _ q=>neg_int q
end
def Wu:V->V->Bool
 | .non, .non=>true| .non, .int _=>true| .int _, .non=>true| .non, .bl _=>true| .bl _, .non=>true| .non, .str _=>true| .str _, .non=>true
 | .int _, .int _=>true| .bl _, .bl _=>true| .str _, .str _=>true| .byt _, .byt _=>true
 | .int _, .str _=>true| .str _, .int _=>true| .bl _, .str _=>true| .str _, .bl _=>true
 |_,_=>false
def rEq:R2:=fun x y H Q=>Wu x y=true/\Q (.bl (decide (x=y))) H
def rNe:R2:=fun x y H Q=>Wu x y=true/\Q (.bl (!decide (x=y))) H
theorem Pe{i j:Int}:decide (V.int i=V.int j)=(i==j):=by
 rw[Eo]
 simp
theorem UT{i j:Bool}:decide (V.bl i=V.bl j)=(i==j):=by
 rw[Eo]
 simp
theorem Pd{i j:Str}:decide (V.str i=V.str j)=(i==j):=by
 rw[Eo]
 simp
theorem Pf{i j:Array UInt8}:decide (V.byt i=V.byt j)=(i.toList==j.toList):=by
 rw[Eo]
 cases i
 cases j
 simp
section
variable {X:Cx} {a b c:Expr} {ta tb tc:TE} {pos:Pos}
theorem C9{c7:List (Addr×Obj)}{σ:St}{H:Hp}{s:Shared}{Q:VK}{k k':Bool}(I:Inv X c7 σ H s)(q:Q (.bl k) H)(e:k=k'):EP X c7 σ Q (.bool k') s:=by
 subst e
 exact⟨.bl k,H,I,rfl,q⟩
theorem Dd:DE X (compareOp .Eq) rEq:=by
 intro c7 s σ H x y v u Q I rx ry h
 obtain⟨hs,q⟩:=h
 cases x with
 |non=>
  cases rx
  cases y with
  |non=>cases ry;exact PySem.EqNone.eq_none_none (C9 I q (by simp))
  |bl j=>cases ry;exact PySem.EqNone.eq_none_bool (C9 I q (by simp))
  |int j=>obtain⟨t',rfl⟩:=ry;exact PySem.EqNone.eq_none_int (C9 I q (by simp))
  |str j=>obtain⟨t',rfl⟩:=ry;exact PySem.EqNone.eq_none_str (C9 I q (by simp))
  |_=>exact absurd (show false=true from hs) Ac
 |bl i=>
  cases rx
  cases y with
  |non=>cases ry;exact PySem.EqNone.eq_bool_none (C9 I q (by simp))
  |bl j=>cases ry;exact eq_bool (C9 I q UT)
  |str j=>obtain⟨t',rfl⟩:=ry;exact PySem.EqMixed.eq_bool_str (C9 I q (by simp))
  |_=>exact absurd (show false=true from hs) Ac
 |int i=>
  obtain⟨t,rfl⟩:=rx
  cases y with
  |non=>cases ry;exact PySem.EqNone.eq_int_none (C9 I q (by simp))
  |int j=>obtain⟨t',rfl⟩:=ry;exact eq_int (C9 I q Pe)
  |str j=>obtain⟨t',rfl⟩:=ry;exact PySem.EqMixed.eq_int_str (C9 I q (by simp))
  |_=>exact absurd (show false=true from hs) Ac
 |str i=>
  obtain⟨t,rfl⟩:=rx
  cases y with
  |non=>cases ry;exact PySem.EqNone.eq_str_none (C9 I q (by simp))
  |bl j=>cases ry;exact PySem.EqMixed.eq_str_bool (C9 I q (by simp))
  |int j=>obtain⟨t',rfl⟩:=ry;exact PySem.EqMixed.eq_str_int (C9 I q (by simp))
  |str j=>obtain⟨t',rfl⟩:=ry;exact eq_str (C9 I q Pd)
  |_=>exact absurd (show false=true from hs) Ac
 |byt i=>
  obtain⟨t,rfl⟩:=rx
  cases y with
  |byt j=>obtain⟨t',rfl⟩:=ry;exact PySem.W.eq_bytes (C9 I q Pf)
  |_=>exact absurd (show false=true from hs) Ac
 |_=>cases y<;>exact absurd (show false=true from hs) Ac
theorem KP:DE X (compareOp .NotEq) rNe:=by
 intro c7 s σ H x y v u Q I rx ry h
 obtain⟨hs,q⟩:=h
 cases x with
 |non=>
  cases rx
  cases y with
  |non=>cases ry;exact PySem.EqNone.ne_none_none (C9 I q (by simp))
  |bl j=>cases ry;exact PySem.EqNone.ne_none_bool (C9 I q (by simp))
  |int j=>obtain⟨t',rfl⟩:=ry;exact PySem.EqNone.ne_none_int (C9 I q (by simp))
  |str j=>obtain⟨t',rfl⟩:=ry;exact PySem.EqNone.ne_none_str (C9 I q (by simp))
  |_=>exact absurd (show false=true from hs) Ac
 |bl i=>
  cases rx
  cases y with
  |non=>cases ry;exact PySem.EqNone.ne_bool_none (C9 I q (by simp))
  |bl j=>cases ry;exact ne_bool (C9 I q (congrArg not UT))
  |str j=>obtain⟨t',rfl⟩:=ry;exact PySem.EqMixed.ne_bool_str (C9 I q (by simp))
  |_=>exact absurd (show false=true from hs) Ac
 |int i=>
  obtain⟨t,rfl⟩:=rx
  cases y with
  |non=>cases ry;exact PySem.EqNone.ne_int_none (C9 I q (by simp))
  |int j=>obtain⟨t',rfl⟩:=ry;exact ne_int (C9 I q (congrArg not Pe))
  |str j=>obtain⟨t',rfl⟩:=ry;exact PySem.EqMixed.ne_int_str (C9 I q (by simp))
  |_=>exact absurd (show false=true from hs) Ac
 |str i=>
  obtain⟨t,rfl⟩:=rx
  cases y with
  |non=>cases ry;exact PySem.EqNone.ne_str_none (C9 I q (by simp))
  |bl j=>cases ry;exact PySem.EqMixed.ne_str_bool (C9 I q (by simp))
  |int j=>obtain⟨t',rfl⟩:=ry;exact PySem.EqMixed.ne_str_int (C9 I q (by simp))
  |str j=>obtain⟨t',rfl⟩:=ry;exact ne_str (C9 I q (congrArg not Pd))
  |_=>exact absurd (show false=true from hs) Ac
 |byt i=>
  obtain⟨t,rfl⟩:=rx
  cases y with
  |byt j=>obtain⟨t',rfl⟩:=ry;exact PySem.W.ne_bytes (C9 I q (congrArg not Pf))
  |_=>exact absurd (show false=true from hs) Ac
 |_=>cases y<;>exact absurd (show false=true from hs) Ac
theorem Dc:DE X (compareOp .Lt) (QW fun i j=> .bl (decide (i<j))):=WM fun _ _ _ _ _ _ _ q=>lt_int q
theorem Tv:DE X (compareOp .LtE) (QW fun i j=> .bl (decide (i<=j))):=WM fun _ _ _ _ _ _ _ q=>le_int q
theorem HW:DE X (compareOp .Gt) (QW fun i j=> .bl (decide (j<i))):=WM fun _ _ _ _ _ _ _ q=>gt_int q
theorem KQ:DE X (compareOp .GtE) (QW fun i j=> .bl (decide (j<=i))):=WM fun _ _ _ _ _ _ _ q=>ge_int q
theorem HV:DE X (compareOp .In) (fun x y H Q=>∃i j,x= .str i/\y= .str j/\Q (.bl (!(Builtin.Str.occurrences j i 0 j.length 1).isEmpty)) H):=by
 intro c7 s σ H x y v u Q I rx ry h
 obtain⟨i,j,rfl,rfl,q⟩:=h
 obtain⟨t,rfl⟩:=rx
 obtain⟨t',rfl⟩:=ry
 exact in_str (C9 I q rfl)
theorem q5(b:Expr){op:CmpOp}(h:op≠ .In:=by decide)(h2:op≠ .NotIn:=by decide):behindInMarks op b=false:=by
 have e1:(op==CmpOp.In)=false:=by cases op<;>first|rfl|exact absurd rfl h
 have e2:(op==CmpOp.NotIn)=false:=by cases op<;>first|rfl|exact absurd rfl h2
 cases b<;>simp [behindInMarks,e1,e2]
theorem Fs{op:CmpOp}{r:R2}(ho:DE X (compareOp op) r)(ha:PE X a ta)(hb:PE X b tb)(hm:behindInMarks op b=false):PE X (.Compare a [op] [b] pos) (tOp r ta tb):=by
 intro c7 s σ H Q I h
 exact wpAny_Compare1 (Qbs ha hb I h fun v u s2 x y H2 I2 rx ry q=>ho c7 s2 σ H2 x y v u Q I2 rx ry q) hm
def RD(t:TE):TT:=fun σ H Q=>t σ H fun x H'=>∃k,x= .bl k/\Q k H'
theorem o4{op:CmpOp}{r:R2}(ho:DE X (compareOp op) r)(ha:PE X a ta)(hb:PE X b tb)(hm:behindInMarks op b=false):PT X (.Compare a [op] [b] pos) (RD (tOp r ta tb)):=by
 intro c7 s σ H Q I h
 refine wpAny_isTrue_Compare1 (P0 (ha c7 s σ H _ I h) fun v s1 ⟨x,H1,I1,r1,q1⟩=>P0 (hb c7 s1 σ H1 _ I1 q1) fun u s2 ⟨y,H2,I2,r2,q2⟩=>
  P0 (ho c7 s2 σ H2 x y v u _ I2 r1 r2 q2) fun c s3 ⟨z,H3,I3,r3,k,e,q3⟩=> ?_) hm
 subst e
 cases r3
 exact Fe ⟨H3,I3,q3⟩
def Mn(r r':R2)(ta tb tc:TE):TE:=fun σ H Q=>ta σ H fun x H1=>tb σ H1 fun y H2=>r x y H2 fun z H3=>∃k,z= .bl k/\
 (if k=true then tc σ H3 fun w' H4=>r' y w' H4 Q else Q (.bl false) H3)
theorem Ea{op op':CmpOp}{r r':R2}(ho:DE X (compareOp op) r)(ho':DE X (compareOp op') r')(ha:PE X a ta)(hb:PE X b tb)(hc:PE X c tc)
  (hm:lastMarks [op,op'] [b,c]=false:=by with_unfolding_all rfl):PE X (.Compare a [op,op'] [b,c] pos) (Mn r r' ta tb tc):=by
 intro c7 s σ H Q I h
 refine Compare_chain (P0 (ha c7 s σ H _ I h) fun v s1 ⟨x,H1,I1,r1,q1⟩=>chain_link (P0 (hb c7 s1 σ H1 _ I1 q1) fun u s2 ⟨y,H2,I2,r2,q2⟩=>
  P0 (ho c7 s2 σ H2 x y v u _ I2 r1 r2 q2) fun d s3 ⟨z,H3,I3,r3,k,e,q3⟩=> ?_)) hm
 subst e
 cases r3
 refine Fe ?_
 cases k with
 |false=>exact ite_ff ⟨.bl false,H3,I3,rfl,q3⟩
 |true=>exact ite_tt (chain_last (P0 (hc c7 s3 σ H3 _ I3 q3) fun w' s4 ⟨z',H4,I4,r4,q4⟩=>ho' c7 s4 σ H4 y z' u w' Q I4 r2 r4 q4))
def Qc5(K:n9)(x:V)(H:Hp)(k:Bool):Prop:=
 match x with
 | .non=>k=false
 | .bl b=>k=b
 | .int i=>k=(i != 0)
 | .str y=>y.length<=sizeLine/\k=((y.length:Int) != 0)
 | .byt y=>y.size<=sizeLine/\k=((y.size:Int) != 0)
 | .ref p=>(∃xs,o6 K H p xs/\k= !xs.isEmpty)\/(∃xs,AG K H p xs/\k= !xs.isEmpty)\/∃kvs,H p=some (.dK kvs)/\k= !kvs.isEmpty
 |_=>False
theorem MW{κ:Type}{kvs:List (κ×V)}{vs:List (κ×Value)}(r:KV kvs vs):(!vs.isEmpty)= !kvs.isEmpty:=by
 cases r<;>rfl
theorem Gh{xs:List V}{A0:List Value}(r:y7 xs A0):(!A0.toArray.isEmpty)= !xs.isEmpty:=by
 cases r<;>simp
theorem Dr:(sizeLine:Nat)<2^63:=by rw[T6];decide
theorem Zl:Qds X (fun x H Q=>∃k,Qc5 X.K x H k/\Q k H):=by
 intro c7 s σ H x v Q I rx h
 obtain⟨k,e,q⟩:=h
 have hl:=Dr
 have hs:sizeLine=16777216:=T6
 cases x with
 |non=>
  cases rx
  have e':k=false:=e
  subst e'
  exact truthy_none ⟨H,I,q⟩
 |bl b=>
  cases rx
  have e':k=b:=e
  subst e'
  exact Fe ⟨H,I,q⟩
 |int i=>
  obtain⟨t,rfl⟩:=rx
  have e':k=(i != 0):=e
  subst e'
  exact PySem.P.truthy_int ⟨H,I,q⟩
 |str y=>
  obtain⟨t,rfl⟩:=rx
  obtain⟨hy,e'⟩:y.length<=sizeLine/\k=((y.length:Int) != 0):=e
  subst e'
  exact PySem.P.truthy_str (by omega) ⟨H,I.tok _,q⟩
 |byt y=>
  obtain⟨t,rfl⟩:=rx
  obtain⟨hy,e'⟩:y.size<=sizeLine/\k=((y.size:Int) != 0):=e
  subst e'
  exact PySem.W.truthy_bytes (by omega) ⟨H,I.tok _,q⟩
 |ref p=>
  cases rx
  have e':(∃xs,o6 X.K H p xs/\k= !xs.isEmpty)\/(∃xs,AG X.K H p xs/\k= !xs.isEmpty)\/∃kvs,H p=some (.dK kvs)/\k= !kvs.isEmpty:=e
  rcases e' with ⟨xs,hx,e'⟩|⟨xs,hx,e'⟩|⟨kvs,hx,e'⟩
  ·subst e'
   obtain⟨A0,r,pl,hz⟩:=I.list hx
   have E2:=r.length
   exact wpAny_truthy_list pl.isList (by simp only[D8];omega) ⟨H,I.tok _,by rw[Gh r];exact q⟩
  ·subst e'
   obtain⟨A0,r,pl,hz⟩:=I.tuple hx
   have E2:=r.length
   exact truthy_tuple pl (by simp only[D8];omega) ⟨H,I.tok _,by rw[Gh r];exact q⟩
  ·subst e'
   obtain⟨hz,hS,vs,r,m⟩:kvs.length<=sizeLine/\(p==sysModules)=false/\∃vs,KV kvs vs/\s.heap.DictOf (A3 X.prog X.w) p vs:=I.hok p _ hx
   have E2:kvs.length=vs.length:=XF r
   exact wpAny_truthy_dict hS m (by omega) ⟨H,I.tok _,by rw[MW r];exact q⟩
 |_=>exact(show False from e).elim
theorem Cn(ha:PE X a ta)(he:∀Cc,isTrue a X.env Cc=(do let v<-Cc;standAt a.pos;holding [v] (truthy v))):
  PT X a (fun σ H Q=>ta σ H fun x H'=>∃k,Qc5 X.K x H' k/\Q k H'):=by
 intro c7 s σ H Q I h
 exact isTrue_plain (P0 (ha c7 s σ H _ I h) fun v s1 ⟨x,H1,I1,r1,q1⟩=>Zl c7 s1 σ H1 x v Q I1 r1 q1) (he _)
theorem U0:DE X (binaryOp .Add) (fun x y H Q=>∃i j,x= .str i/\y= .str j/\i.length+j.length<=sizeLine/\Q (.str (i++j)) H):=by
 intro c7 s σ H x y v u Q I rx ry h
 obtain⟨i,j,rfl,rfl,hz,q⟩:=h
 obtain⟨t,rfl⟩:=rx
 obtain⟨t',rfl⟩:=ry
 exact add_str (fun t' tk=>⟨.str (i++j),H,I.tok _,⟨_,rfl⟩,q⟩) hz
theorem vals1{x:V}{us:List Value}(r:y7 [x] us):∃u,us=[u]/\RelV x u:=by
 cases r with
 |cons r1 r2=>cases r2;exact⟨_,rfl,r1⟩
theorem vals2{x y:V}{us:List Value}(r:y7 [x,y] us):∃u w',us=[u,w']/\RelV x u/\RelV y w':=by
 cases r with
 |cons r1 r2=>
  cases r2 with
  |cons r3 r4=>cases r4;exact⟨_,_,rfl,r1,r3⟩
theorem QN:Ae X (.type "int") (fun xs H Q=>(∃i,xs=[.int i]/\Q (.int i) H)\/∃k,xs=[.bl k]/\Q (.int (if k then 1 else 0)) H):=by
 intro c7 s σ H xs us Q I r h
 rcases h with ⟨i,rfl,q⟩|⟨k,rfl,q⟩
 ·obtain⟨u,rfl,t,rfl⟩:=vals1 r
  exact call_int_int ⟨.int i,H,I,⟨_,rfl⟩,q⟩
 ·obtain⟨u,rfl,r1⟩:=vals1 r
  cases r1
  exact call_int_bool ⟨.int (if k then 1 else 0),H,I.tok _,⟨_,rfl⟩,q⟩
theorem UX:Ae X (.builtin "ord") (fun xs H Q=>∃x,xs=[.str x]/\x.length=1/\Q (.int (x.cps.getD 0 0:Nat)) H):=by
 intro c7 s σ H xs us Q I r h
 obtain⟨x,rfl,hz,q⟩:=h
 obtain⟨u,rfl,t,rfl⟩:=vals1 r
 exact ord_of_one hz ⟨.int _,H,I.tok _,⟨_,rfl⟩,q⟩
end
structure ObjM(h:Heap)(x dx C:Addr)(mA:Str->Option Value):Prop where
 obj:h.get? x=some (PySem.W.instObj C dx)
 ns:h.Ns1 dx mA
 ne:dx≠x
theorem Qm{h:Heap}{dx:Addr}{mA:Str->Option Value}(n:h.Ns1 dx mA):∃od,h.get? dx=some od/\∀name,PySem.W.lookIn name od=some (mA name):=by
 obtain⟨o,es,ep,ho,hd,hk,_,hm⟩:=n
 refine⟨o,ho,fun name=> ?_⟩
 have e:=hm name
 unfold nsFind findBy at e
 rw[<-Array.find?_toList] at e
 unfold PySem.W.lookIn
 rw[hd]
 dsimp only
 split
 ·rename_i y q
  rw[q] at e
  exact congrArg some e
 ·rename_i q
  rw[q] at e
  have a:es.toList.any (·.refKey)=false:=by
   rw[List.any_eq_false]
   intro y hy
   obtain⟨z,t,Ln⟩:=hk y (Array.mem_toList_iff.mp hy)
   simp [DictEntry.refKey,Ln]
  have a':¬es.toList.any (·.refKey)=true:=by rw[a];exact Ac
  rw[if_neg a']
  exact congrArg some e
theorem ObjM.look{h:Heap}{x dx C:Addr}{mA:Str->Option Value}(I:ObjM h x dx C mA):∃od,PySem.W.InstAt h x (PySem.W.instObj C dx) C (some od)/\∀name,PySem.W.lookIn name od=some (mA name):=
 let ⟨od,ho,hl⟩:=Qm I.ns
 ⟨od,⟨I.obj,rfl,rfl,ho⟩,hl⟩
section
variable {prog:Program} {w:World} {A:Around} {E:Value->Shared->Prop} {s:Shared} {K:n9} {x dx C f:Addr} {mA:Str->Option Value} {name:Str} {v:Value}
theorem Ei{expr:Bool}{Q:Value->Shared->Prop}(X:K.In s.heap)(I:ObjM s.heap x dx C mA)(hg:PySem.W.plainGet K C name=true)(hh:PySem.W.hasDictIn K C=true)
  (ha:PySem.W.findIn K (.ref C) name=some none)(hv:mA name=some v)(hv':PySem.W.handedIn v=true)(h:Q v {s with toks:=s.toks+1}):
  wpAny (model prog w) A (getAttr (.ref x) name expr) Q E s:=by
 obtain⟨od,J,hl⟩:=I.look
 exact PySem.W.get_value X J (Ve hg).1 (PySem.W.findObj_own hh ha rfl (by rw[hl,hv])) hv' h
theorem UE{pl:Sem Bool}{Q:Value×List Value->Shared->Prop}(X:K.In s.heap)(I:ObjM s.heap x dx C mA)(hg:PySem.W.plainGet K C name=true)
  (hf:PySem.W.findIn K (.ref C) name=some (some (.ref f)))(ht:PySem.W.isFn K (.ref f)=true)(hv:mA name=none)(h:Q (.ref f,[.ref x]) s):
  wpAny (model prog w) A (getMethod (.ref x) name pl) Q E s:=by
 obtain⟨od,J,hl⟩:=I.look
 exact PySem.W.method_fn X J (Ve hg).1 (Ve hg).2 hf (LL.mp ht) (by show (PySem.W.lookIn name od).map (·.isSome)=some false;rw[hl,hv];rfl) h
theorem Ws{ns:List Str}{Q:Unit->Shared->Prop}(X:K.In s.heap)(I:ObjM s.heap x dx C mA)
  (hs:PySem.W.findIn K (.ref C) "__setattr__"=some (some (.builtin "object.__setattr__")))(hp:PySem.W.plainOver K C=true)(ht:PySem.W.takerIn K C name=some none)(hh:PySem.W.hasDictIn K C=true)
  (hw:PySem.Within mA ns)(hsz:ns.length<=sizeLine)
  (h:∀h',ObjM h' x dx C (fun y=>if y=name then some v else mA y)->Heap.SameBut dx s.heap h'->Q () {s with heap:=h',toks:=s.toks+2}):
  wpAny (model prog w) A (setAttr (.ref x) name v) Q E s:=by
 obtain⟨od,J,hl⟩:=I.look
 refine PySem.W.set_plain X J hs (PySem.W.osa_open (s:={s with toks:=s.toks+1}) (r:=none) X J hp ht fun b=> ?_)
 obtain⟨cd,hc,hd'⟩:=PySem.W.any_some hh
 have hx:s.heap.get? x=some ⟨.ref C,some dx, .plain,#[]⟩:=I.obj
 refine x6 (J3 (x6 (x6 (wpAny_loadPart hx (x6 (PySem.W.Looks.here (s:={s with toks:=s.toks+1}) (PySem.W.looks_clsIn X hc) ?_))))))
 rw[hd']
 refine J3 (a:=some dx) (x6 (J3 (x6 ?_)))
 refine wpAny_nsSet1 (s:={s with toks:=s.toks+1}) I.ns fun h' hn2 hs2=> ?_
 obtain⟨oD,esD,epD,hoD,hdD,hcD⟩:=hn2.count (PySem.Within.cons name v hw)
 refine x6 (wpAny_lookBehind hoD (by rw[hdD];exact pastItsLine_dict (Ad hcD (by rw[List.length_cons];omega))) ?_)
 exact J3 (h _ ⟨(hs2.2 _ (Y4 I.ne)).trans I.obj,hn2,I.ne⟩ hs2)
theorem Ub{R:Result->Shared->Prop}{vs:List Value}{kw:List (Str×Value)}(X:K.In s.heap)(hm:PySem.W.makesIn K C=true)
  (hi:PySem.W.findIn K (.ref C) "__init__"=some (some (.ref f)))(hf:PySem.W.typeIn K (.ref f)=some (.type "function"))
  (h:codeAny (model prog w) (A.under (.builtin "type.__call__" ⟨.ref C::vs,kw⟩)) (.call (.ref f) ⟨.ref (s.heap.objs.size+1)::vs,kw⟩) (PySem.W.InitBack (s.heap.objs.size+1) R)
   {s with heap:=(s.heap.push PySem.W.emptyDict).push (PySem.W.instObj C s.heap.objs.size)}):
  codeAny (model prog w) A (.call (.ref C) ⟨vs,kw⟩) R s:=by
 obtain⟨hh,g,d,t,os⟩:=s
 exact PySem.W.make_core (PySem.W.makes_of X hm) (PySem.W.looks_findIn X hi) (fun self=>PySem.W.bind_fn X self hf) (.inl rfl) h
end
def J6(f:Str)(v:V):List (Str×V)->List (Str×V)
 |[]=>[(f,v)]
 |(g,x)::r=>if g=f then (g,v)::r else (g,x)::J6 f v r
theorem Fa(f g:Str)(v:V):∀fs:List (Str×V),(J6 f v fs).lookup g=if g=f then some v else fs.lookup g
 |[]=>by
  show List.lookup g [(f,v)]=_
  by_cases h:g=f
  ·have hb:(g==f)=true:=LL.mpr h
   simp only[List.lookup,hb,if_pos h]
  ·have hb:(g==f)=false:=QR.mpr h
   simp only[List.lookup,hb,if_neg h]
 |(k,x)::r=>by
  have ih:=Fa f g v r
  rw[show J6 f v ((k,x)::r)=(if k=f then (k,v)::r else (k,x)::J6 f v r) from rfl]
  by_cases hk:k=f
  ·rw[if_pos hk]
   by_cases h:g=k
   ·have hb:(g==k)=true:=LL.mpr h
    simp only[List.lookup,hb,if_pos (h.trans hk)]
   ·have hb:(g==k)=false:=QR.mpr h
    simp only[List.lookup,hb,if_neg (fun e:g=f=>h (e.trans hk.symm))]
  ·rw[if_neg hk]
   by_cases h:g=k
   ·have hb:(g==k)=true:=LL.mpr h
    simp only[List.lookup,hb,if_neg (fun e:g=f=>hk (h.symm.trans e))]
   ·have hb:(g==k)=false:=QR.mpr h
    simp only[List.lookup,hb]
    exact ih
theorem EF(f:Str)(v:V):∀fs:List (Str×V),f∈(J6 f v fs).map (·.1)/\∀g,g∈fs.map (·.1)->g∈(J6 f v fs).map (·.1)
 |[]=>⟨by simp [J6],fun g h=>by simp at h⟩
 |(k,x)::r=>by
  obtain⟨i1,i2⟩:=EF f v r
  rw[show J6 f v ((k,x)::r)=(if k=f then (k,v)::r else (k,x)::J6 f v r) from rfl]
  by_cases hk:k=f
  ·rw[if_pos hk]
   subst hk
   exact⟨by simp,fun g h=>by simpa using h⟩
  ·rw[if_neg hk]
   refine⟨?_,fun g h=> ?_⟩
   ·rw[List.map_cons]
    exact D5 _ i1
   ·rw[List.map_cons] at h⊢
    rcases E8.mp h with e|e
    ·exact E8.mpr (.inl e)
    ·exact D5 _ (i2 g e)
theorem Fb(f:Str)(v:V):∀fs:List (Str×V),(J6 f v fs).length<=fs.length+1
 |[]=>by simp [J6]
 |(k,x)::r=>by
  have ih:=Fb f v r
  rw[show J6 f v ((k,x)::r)=(if k=f then (k,v)::r else (k,x)::J6 f v r) from rfl]
  by_cases hk:k=f
  ·rw[if_pos hk,List.length_cons,List.length_cons];omega
  ·rw[if_neg hk,List.length_cons,List.length_cons];omega
theorem Cb.some_of{v:V}{o:Option Value}(r:Cb (some v) o):∃u,o=some u/\RelV v u:=by
 cases o with
 |none=>exact(show False from r).elim
 |some u=>exact⟨u,rfl,r⟩
theorem Cb.none_of{o:Option Value}(r:Cb none o):o=none:=by
 cases o with
 |none=>rfl
 |some u=>exact(show False from r).elim
theorem Qx{v:V}{u:Value}(r:RelV v u):PySem.W.handedIn u=true:=by
 cases v with
 |non=>cases (show u=Value.none from r);rfl
 |bl b=>cases (show u=Value.bool b from r);rfl
 |int i=>obtain⟨t,e⟩:=(show ∃t,u=Value.int i t from r);cases e;rfl
 |str x=>obtain⟨t,e⟩:=(show ∃t,u=Value.str x t from r);cases e;rfl
 |byt b=>obtain⟨t,e⟩:=(show ∃t,u=Value.bytes b t from r);cases e;rfl
 |flt b=>obtain⟨t,e⟩:=(show ∃t,u=Value.float b t from r);cases e;rfl
 |ref a=>cases (show u=Value.ref a from r);rfl
 |ty n=>cases (show u=Value.type n from r);rfl
section
variable {P:Program} {w:World} {H H':Hp} {h h':Heap} {a C dx:Addr} {fs fs':List (Str×V)}
theorem Fw(hok:DF P w H h)(e:H a=some (.ins C dx fs)):∃mA,ObjM h a dx C mA/\(∀f,Cb (fs.lookup f) (mA f))/\PySem.Within mA (fs.map (·.1))/\fs.length<=1000/\H dx=some (.own a):=by
 obtain⟨d,z,ne,ob,mA,n,r,q⟩:=(show J4 P w H h a (.ins C dx fs) from hok a _ e)
 exact⟨mA,⟨ob,n,ne⟩,r,q,z,d⟩
end
structure Cls(K:n9)(C:Addr):Prop where
 pg:PySem.W.plainGet K C Str.empty=true
 hd:PySem.W.hasDictIn K C=true
 po:PySem.W.plainOver K C=true
 sa:PySem.W.findIn K (.ref C) "__setattr__"=some (some (.builtin "object.__setattr__"))
theorem Cls.get{K:n9}{C:Addr}(c:Cls K C)(f:Str):PySem.W.plainGet K C f=true:=c.pg
def J8(K:n9)(C:Addr)(f:Str):Prop:=PySem.W.findIn K (.ref C) f=some none
theorem J8.taker{K:n9}{C:Addr}{f:Str}(n:J8 K C f):PySem.W.takerIn K C f=some none:=by
 unfold PySem.W.takerIn
 rw[show PySem.W.findIn K (.ref C) f=some none from n]
 rfl
structure Con(K:n9)(C:Addr)(f:Str)(v:V)(u:Value):Prop where
 at_:PySem.W.findIn K (.ref C) f=some (some u)
 rel:RelV v u
 get:PySem.W.specialIn K u "__get__"=some none
 cp:PySem.W.copiedNames.contains f=false
structure Meth(K:n9)(C:Addr)(m:Str)(f:Addr):Prop where
 at_:PySem.W.findIn K (.ref C) m=some (some (.ref f))
 fn:PySem.W.isFn K (.ref f)=true
 kp:PySem.W.keepIn K (.ref f)=true
section
variable {X:Cx} {c7:List (Addr×Obj)} {σ:St} {H:Hp} {s:Shared} {a C dx:Addr} {fs:List (Str×V)} {f:Str} {v:V} {A:Around} {E:Value->Shared->Prop}
theorem Gp{b:Bool}{Q:Value->Shared->Prop}(I:Inv X c7 σ H s)(e:H a=some (.ins C dx fs))(c:Cls X.K C)(n:J8 X.K C f)(l:fs.lookup f=some v)
  (h:∀u s',Inw X c7 σ H s'->RelV v u->Q u s'):wpAny (model X.prog X.w) A (getAttr (.ref a) f b) Q E s:=by
 obtain⟨mA,O,r,_,_,_⟩:=Fw I.hok e
 obtain⟨u,hu,ru⟩:=Cb.some_of (v:=v) (o:=mA f) (by rw[<-l];exact r f)
 exact Ei I.kIn O (c.get f) c.hd n hu (Qx ru) (h u _ (I.tok _) ru)
theorem Go{m:Str}{g:Addr}{pl:Sem Bool}{Q:Value×List Value->Shared->Prop}(I:Inv X c7 σ H s)(e:H a=some (.ins C dx fs))(c:Cls X.K C)(k:Meth X.K C m g)(l:fs.lookup m=none)
  (h:Q (.ref g,[.ref a]) s):wpAny (model X.prog X.w) A (getMethod (.ref a) m pl) Q E s:=by
 obtain⟨mA,O,r,_,_,_⟩:=Fw I.hok e
 have hn:mA m=none:=Cb.none_of (by rw[<-l];exact r m)
 exact UE I.kIn O (c.get m) k.at_ k.fn hn h
theorem FQ{y:V}{u:Value}{Q:Unit->Shared->Prop}(I:Inv X c7 σ H s)(e:H a=some (.ins C dx fs))(c:Cls X.K C)(n:J8 X.K C f)(hl:fs.length<1000)(ry:RelV y u)
  (h:∀s',Inw X c7 σ (upd H a (.ins C dx (J6 f y fs))) s'->Q () s'):wpAny (model X.prog X.w) A (setAttr (.ref a) f u) Q E s:=by
 obtain⟨mA,O,r,wi,_,ho⟩:=Fw I.hok e
 have hz:(fs.map (·.1)).length<=sizeLine:=by rw[i5,T6];omega
 refine Ws I.kIn O c.sa c.po n.taker c.hd wi hz fun h' O' sb=>h _ ?_
 have hd:∃o,h'.get? dx=some o:=let ⟨o,_,_,e',_⟩:=O'.ns;⟨o,e'⟩
 refine I.write (x:=a) (e:=dx) (by rw[e];exact True.intro) (.inr ho) (fun b q hb z=>(sb.2 b hb).trans z) hd ?_
 refine⟨by rw[i4 O.ne];exact ho,?_,O.ne,O'.obj,_,O'.ns,fun g=> ?_,fun g hg=> ?_⟩
 ·have:=Fb f y fs;omega
 ·show Cb ((J6 f y fs).lookup g) (if g=f then some u else mA g)
  rw[Fa]
  by_cases q:g=f
  ·rw[if_pos q,if_pos q];exact ry
  ·rw[if_neg q,if_neg q];exact r g
 ·by_cases q:g=f
  ·rw[q];exact(EF f y fs).1
  ·refine(EF f y fs).2 g (wi g fun z=>hg ?_)
   show (if g=f then some u else mA g)=none
   rw[if_neg q];exact z
theorem Inw.made(I:Inw X c7 σ H s):Inw X c7 σ (upd (upd H s.heap.objs.size (.own (s.heap.objs.size+1))) (s.heap.objs.size+1) (.ins C s.heap.objs.size []))
  {s with heap:=(s.heap.push PySem.W.emptyDict).push (PySem.W.instObj C s.heap.objs.size)}:=by
 have e1:(s.heap.push PySem.W.emptyDict).get? s.heap.objs.size=some PySem.W.emptyDict:=W8 s.heap rfl
 have e2:((s.heap.push PySem.W.emptyDict).push (PySem.W.instObj C s.heap.objs.size)).get? (s.heap.objs.size+1)=some (PySem.W.instObj C s.heap.objs.size):=by
  have:=W8 (s.heap.push PySem.W.emptyDict) (o:=PySem.W.instObj C s.heap.objs.size) rfl
  rwa [Pq] at this
 have e3:(s.heap.push PySem.W.emptyDict).Ns s.heap.objs.size (fun _=>none):=⟨PySem.W.emptyDict,#[],_,e1,rfl,(fun e he=>absurd he (by simp)),fun _=>rfl⟩
 have I1:=I.laid (a:=s.heap.objs.size) (o:= .own (s.heap.objs.size+1)) (h':=s.heap.push PySem.W.emptyDict) (t':=s.toks) (fun b u q=>Q2 _ q) (l9 _) ⟨_,e1⟩
 refine I1.laid (a:=s.heap.objs.size+1) (o:= .ins C s.heap.objs.size []) (t':=s.toks) (fun b u q=>Q2 _ q) (Iu (Pq _ _)) ?_
 have ne:s.heap.objs.size≠s.heap.objs.size+1:=M7 (GK _)
 refine⟨by rw[i4 ne,c5],x5 _,ne,e2,fun _=>none,(Heap.Ns1.of_empty e3).at fun o q=>Q2 _ q,fun _=>True.intro,fun y hy=>absurd rfl hy⟩
theorem XD{prog:Program}{w:World}{env:Env}{e:Expr}{f:Str}{pos:Pos}{s:Shared}{Q:Value->Shared->Prop}(hb:attributeBase e f env (eval e env)=eval e env)
  (h:wpAny (model prog w) A (eval e env) (fun o s₁=>wpAny (model prog w) A (getAttr o f true) Q E s₁) E s):wpAny (model prog w) A (eval (.Attribute e f pos) env) Q E s:=
 Attribute_any_ h (by rw[arm_eval_Attribute,hb])
end
def Hk(K:n9)(ta:TE)(f:Str):TE:=fun σ H Q=>ta σ H fun x H1=>∃a C dx fs v,x= .ref a/\H1 a=some (.ins C dx fs)/\Cls K C/\J8 K C f/\fs.lookup f=some v/\Q v H1
def WA(K:n9)(ta tv:TE)(f:Str):TS:=fun D σ H=>tv σ H fun y H1=>ta σ H1 fun x H2=>∃a C dx fs,x= .ref a/\H2 a=some (.ins C dx fs)/\Cls K C/\J8 K C f/\fs.length<1000/\
 D.nx σ (upd H2 a (.ins C dx (J6 f y fs)))
def Qc8(X:Cx)(op:Operator)(rd:V->V->Hp->VK->Prop):Prop:=
 ∀(c7:List (Addr×Obj)) (s:Shared) (σ:St) (H:Hp) (x y:V) (u v:Value) (Q:VK),Inv X c7 σ H s->RelV x u->RelV y v->rd x y H Q->wpAny (model X.prog X.w) X.A (inplaceOp op u v) (EP X c7 σ Q) X.xe s
def Oo(K:n9)(ta tv:TE)(rd:V->V->Hp->VK->Prop)(f:Str):TS:=fun D σ H=>ta σ H fun x H1=>∃a C dx fs v,x= .ref a/\H1 a=some (.ins C dx fs)/\Cls K C/\J8 K C f/\fs.lookup f=some v/\
 tv σ H1 fun y H2=>rd v y H2 fun z H3=>∃dx' fs',H3 a=some (.ins C dx' fs')/\fs'.length<1000/\D.nx σ (upd H3 a (.ins C dx' (J6 f z fs')))
section
variable {X:Cx} {o e value:Expr} {f:Str} {pos pos' tpos:Pos} {ta tv:TE}
theorem Y6(he:PE X e ta)(hb:attributeBase e f X.env (eval e X.env)=eval e X.env):PE X (.Attribute e f pos) (Hk X.K ta f):=by
 intro c7 s σ H Q I h
 refine XD hb (P0 (he c7 s σ H _ I h) fun u s1 ⟨x,H1,I1,rx,a,C,dx,fs,v,ex,ea,c,n,l,q⟩=> ?_)
 subst ex
 obtain rfl:u=Value.ref a:=rx
 exact Gp I1 ea c n l fun u' s2 I2 ru=>⟨v,H1,I2,ru,q⟩
theorem Co(ha:PE X o ta)(hv:PE X value tv)(hs:swapsWith value (some (.Attribute o f pos')) pos.line X.env=pure false):PS X (.Assign [.Attribute o f pos'] value pos) (WA X.K ta tv f):=by
 intro c7 s σ H D I h
 refine plainObj_wpAny_Assign_Attribute (P0 (hv c7 s σ H _ I h) fun u s1 ⟨y,H1,I1,ry,q⟩=>P0 (ha c7 s1 σ H1 _ I1 q) fun ov s2 ⟨x,H2,I2,rx,a,C,dx,fs,ex,ea,c,n,l,q2⟩=> ?_) hs
 subst ex
 obtain rfl:ov=Value.ref a:=rx
 exact FQ I2 ea c n l ry fun s3 I3=>⟨σ,_,I3,q2⟩
theorem Qg{op:Operator}{rd:V->V->Hp->VK->Prop}(ha:PE X o ta)(hv:PE X value tv)(hop:Qc8 X op rd):PS X (.AugAssign (.Attribute o f tpos) op value pos) (Oo X.K ta tv rd f):=by
 intro c7 s σ H D I h
 refine wpAny_AugAssign_AttributeAny (P0 (ha c7 s σ H _ I h) fun ov s1 ⟨x,H1,I1,rx,a,C,dx,fs,v,ex,ea,c,n,l,q⟩=> ?_)
 subst ex
 obtain rfl:ov=Value.ref a:=rx
 refine W6 I1.pos (U2 (Q':=fun a s'=>0<s'.toks->_) (E':=fun e s'=>0<s'.toks->_) (Gp I1 ea c n l (Q:=fun u s2=>Inw X c7 σ H1 s2/\RelV v u) (E:=fun _ _=>False) fun u s2 I2 ru=>⟨I2,ru⟩) (fun u s2 ⟨I2,ru⟩ z2=> ?_) fun _ _ z=>z.elim)
 refine P0 (hv c7 s2 σ H1 _ ⟨I2,z2⟩ q) fun w3 s3 ⟨y,H2,I3,ry,q3⟩=>P0 (hop c7 s3 σ H2 v y u w3 _ I3 ru ry q3) fun w4 s4 ⟨z,H3,I4,rz,dx',fs',ea',l',q4⟩=> ?_
 exact FQ I4 ea' c n l' rz fun s5 I5=>⟨σ,_,I5,q4⟩
def Qb6:V->V->Hp->VK->Prop:=fun x y H Q=>∃i j,x= .int i/\y= .int j/\Q (.int (i+j)) H
theorem Qbj:Qc8 X .Add Qb6:=by
 rintro c7 s σ H x y u v Q I rx ry ⟨i,j,rfl,rfl,q⟩
 obtain⟨t,rfl⟩:=(show ∃t,u=Value.int i t from rx)
 obtain⟨t',rfl⟩:=(show ∃t',v=Value.int j t' from ry)
 exact PyProof.Rows.iadd_int ⟨.int (i+j),H,I.tok _,⟨_,rfl⟩,q⟩
end
section
variable {X:Cx} {c7:List (Addr×Obj)} {σ:St} {H:Hp} {s:Shared} {A:Around} {E:Value->Shared->Prop} {Q:Value->Shared->Prop} {c:Value} {b:Bool}
inductive TyOf (K:n9) (H:Hp):V->Value->Prop where
 |non:TyOf K H .non (.type "NoneType")
 |bl (x:Bool):TyOf K H (.bl x) (.type "bool")
 |int (i:Int):TyOf K H (.int i) (.type "int")
 |str (x:Str):TyOf K H (.str x) (.type "str")
 |flt (x:UInt64):TyOf K H (.flt x) (.type "float")
 |lst {a:Addr} {xs:List V} (e:H a=some (.lst xs)):TyOf K H (.ref a) (.type "list")
 |frz {a:Addr} {o:Obj} {xs:List V} (e:H a=some (.frz o (.lst xs))):TyOf K H (.ref a) (.type "list")
 |tup {a:Addr} {xs:List V} (e:H a=some (.tup xs)):TyOf K H (.ref a) (.type "tuple")
 |dK {a:Addr} {kvs:List (D7×V)} (e:H a=some (.dK kvs)):TyOf K H (.ref a) (.type "dict")
 |dT {a:Addr} {kvs:List (List D7×V)} (e:H a=some (.dT kvs)):TyOf K H (.ref a) (.type "dict")
 |ins {a C dx:Addr} {fs:List (Str×V)} (e:H a=some (.ins C dx fs)) (cl:Cls K C) (ha:PySem.W.findIn K (.ref C) "__class__"=some (some (.builtin "object.__class__")))
   (hn:PySem.W.specialIn K (.builtin "object.__class__") "__get__"=some (some (.builtin "getset_descriptor.__get__"))) (YK:PySem.W.takesIn K (.builtin "object.__class__")=some true)
   (hm:PySem.W.mroIn K C (.type "object")=some true):TyOf K H (.ref a) (.ref C)
theorem Qr{x:V}{u t:Value}(I:Inv X c7 σ H s)(rx:RelV x u)(ty:TyOf X.K H x t)(e:PySem.W.kitOne X.K t c=some b)(h:∀tk,Q (.bool b) {s with toks:=tk}):
  wpAny (model X.prog X.w) A (call (.builtin "isinstance") [u,c]) Q E s:=by
 cases ty with
 |non=>cases (show u=Value.none from rx);exact CC PySem.W.kitx_none I.kIn True.intro e (fun z=>nomatch z) h
 |bl y=>cases (show u=Value.bool y from rx);exact CC PySem.W.kitx_bool I.kIn True.intro e (fun z=>nomatch z) h
 |int i=>obtain⟨t,q⟩:=(show ∃t,u=Value.int i t from rx);cases q;exact CC PySem.W.kitx_int I.kIn True.intro e (fun z=>nomatch z) h
 |str y=>obtain⟨t,q⟩:=(show ∃t,u=Value.str y t from rx);cases q;exact CC PySem.W.kitx_str I.kIn True.intro e (fun z=>nomatch z) h
 |flt y=>obtain⟨t,q⟩:=(show ∃t,u=Value.float y t from rx);cases q;exact CC PySem.W.kitx_float I.kIn True.intro e (fun z=>nomatch z) h
 | @lst a xs ea=>
  cases (show u=Value.ref a from rx)
  obtain⟨_,_,n,_,h1⟩:=(show J4 X.prog X.w H s.heap a (.lst xs) from I.hok a _ ea)
  exact CC YW I.kIn ⟨_,h1,rfl⟩ e (fun z=>nomatch z) h
 | @frz a ob xs ea=>
  cases (show u=Value.ref a from rx)
  obtain⟨_,_,_,n,_,h1⟩:=(show J4 X.prog X.w H s.heap a (.frz ob (.lst xs)) from I.hok a _ ea)
  exact CC YW I.kIn ⟨_,h1,rfl⟩ e (fun z=>nomatch z) h
 | @tup a xs ea=>
  cases (show u=Value.ref a from rx)
  obtain⟨_,_,_,p⟩:=(show J4 X.prog X.w H s.heap a (.tup xs) from I.hok a _ ea)
  obtain⟨o,h1,h2,_⟩:=p
  exact CC PySem.W.kitx_tuple I.kIn ⟨o,h1,h2⟩ e (fun z=>nomatch z) h
 | @dK a kvs ea=>
  cases (show u=Value.ref a from rx)
  obtain⟨_,_,vs,_,p⟩:=(show J4 X.prog X.w H s.heap a (.dK kvs) from I.hok a _ ea)
  obtain⟨o,es,ep,h1,h2,_⟩:=p
  exact CC YV I.kIn ⟨o,h1,h2.1⟩ e (fun z=>nomatch z) h
 | @dT a kvs ea=>
  cases (show u=Value.ref a from rx)
  obtain⟨_,_,xs,_,o,es,ep,h1,h2,_⟩:=(show J4 X.prog X.w H s.heap a (.dT kvs) from I.hok a _ ea)
  exact CC YV I.kIn ⟨o,h1,h2.1⟩ e (fun z=>nomatch z) h
 | @ins a C dx fs ea cl ha hn YK hm=>
  cases (show u=Value.ref a from rx)
  obtain⟨mA,O,_⟩:=Fw I.hok ea
  obtain⟨od,J,_⟩:=O.look
  exact CC (PySem.W.kitx_own (cl.get _) cl.hd ha hn YK hm) I.kIn J e (fun z=>nomatch z) h
end
structure Room(k:Nat)(A:Around):Prop where
 hd:A.handled=none
 dp:A.depth+3*k+5<recursionLimit
 un:A.units+16*k+200<cLine
theorem Room.mono{j k:Nat}{A:Around}(r:Room k A)(h:j<=k):Room j A:=⟨r.hd,by have:=r.dp;omega,by have:=r.un;omega⟩
theorem Room.deeper{k:Nat}{A:Around}(r:Room (k+1) A)(env:Env):Room k (A.deeper env):=
 ⟨r.hd,by have:=r.dp;show A.depth+1+3*k+5<_;omega,by have:=r.un;show A.units+3+16*k+200<_;omega⟩
theorem MR{A:Around}{C:Addr}{us:List Value}{kw:List (Str×Value)}:(A.under (.builtin "type.__call__" ⟨.ref C::us,kw⟩)).depth=A.depth+1:=by
 first|rfl|simp [Around.under,Code.weight,Code.isCreation,Code.isGuard,Code.isCaller,Code.frames,Code.isFrame,guardIds]
theorem MQ{A:Around}{C:Addr}{us:List Value}{kw:List (Str×Value)}:(A.under (.builtin "type.__call__" ⟨.ref C::us,kw⟩)).units=A.units+1:=by
 first|rfl|simp [Around.under,Code.cUnits,Code.frames,Code.isFrame]
theorem Room.make{k:Nat}{A:Around}(r:Room (k+1) A)(C:Addr)(us:List Value)(kw:List (Str×Value)):Room k (A.under (.builtin "type.__call__" ⟨.ref C::us,kw⟩)):=
 ⟨r.hd,by have:=r.dp;rw[MR];omega,by have:=r.un;rw[MQ];omega⟩
theorem Room.depth{k:Nat}{A:Around}(r:Room k A):A.depth<recursionLimit:=by have:=r.dp;omega
theorem Room.units{k:Nat}{A:Around}(r:Room k A):A.units+64<cLine:=by have:=r.un;omega
def Kl:TA:=fun _ H Q=>Q [] H
def HG(ta:TE)(tr:TA):TA:=fun σ H Q=>ta σ H fun x H1=>tr σ H1 fun xs H2=>Q (x::xs) H2
section
variable {X:Cx} {e:Expr} {es:List Expr} {te:TE} {t:TA} {pos:Pos}
theorem c8:PA X [] Kl:=fun _ _ _ _ H Q I h=>Pp ⟨[],H,I, .nil,h⟩
theorem c4(ha:PE X e te)(hr:PA X es t)(hs:starEach (e::es) X.env=(false,eval e X.env)::starEach es X.env:=by rfl):PA X (e::es) (HG te t):=by
 intro pos c7 s σ H Q I h
 rw[hs]
 show wpAny _ _ (spliced ((false,eval e X.env)::backTo pos (starEach es X.env))) _ _ s
 refine Fd (P0 (ha c7 s σ H _ I h) fun u s1 ⟨x,H1,I1,r1,q1⟩=> ?_)
 exact P0 (hr pos c7 s1 σ H1 _ I1 q1) fun us s2 ⟨xs,H2,I2,r2,q2⟩=>⟨x::xs,H2,I2, .cons r1 r2,q2⟩
def Wl(t:TA):TE:=fun σ H Q=>t σ H fun xs H1=>xs.length<=sizeLine/\∀p,H1 p=none->Q (.ref p) (upd H1 p (.tup xs))
def RI(t:TA):TE:=fun σ H Q=>t σ H fun xs H1=>xs.length<=sizeLine/\∀p,H1 p=none->Q (.ref p) (upd H1 p (.lst xs))
theorem P8{x1}(h:PA X es t):PE X (.Tuple es x1 pos) (Wl t):=by
 intro c7 s σ H Q I hq
 refine wpAny_Tuple_spliced (P0 (h pos c7 s σ H _ I hq) fun us s1 ⟨xs,H1,I1,r,z,q⟩=>⟨by rw[<-r.length];exact z,?_⟩)
 have hf:H1 s1.heap.objs.size=none:=I1.hok.fresh (l9 _)
 refine⟨.ref s1.heap.objs.size,upd H1 s1.heap.objs.size (.tup xs),I1.laid (t':=s1.toks) (fun b u e=>Q2 _ e) (l9 _) ?_,rfl,q _ hf⟩
 exact⟨z,us,r,⟨_,W8 _ rfl,rfl,_,rfl⟩⟩
theorem B4(h:PA X es t):PE X (.List es pos) (RI t):=by
 intro c7 s σ H Q I hq
 refine wpAny_List_spliced (P0 (h pos c7 s σ H _ I hq) fun us s1 ⟨xs,H1,I1,r,z,q⟩=>⟨by rw[<-r.length];exact z,?_⟩)
 have hf:H1 s1.heap.objs.size=none:=I1.hok.fresh (l9 _)
 refine⟨.ref s1.heap.objs.size,upd H1 s1.heap.objs.size (.lst xs),I1.laid (t':=s1.toks) (fun b u e=>Q2 _ e) (l9 _) ?_,rfl,q _ hf⟩
 exact⟨z,us,0,r,W8 _ rfl⟩
end
abbrev Sp:=List V->Hp->VK->XK->Prop
abbrev Mc:=List Env->Hp->Shared->XK->Value->Shared->Prop
structure Env0w(P:Program)(w:World)(K:n9)(mg:Str->Option Value)(base:Heap)(A:Around)(outer:List Env)(s:Shared)(H:Hp):Prop where
 frames:A.frames=some outer
 mod:Mod K mg base
 bs:∀b o,base.get? b=some o->s.heap.get? b=some o/\H b=none
 bsz:base.objs.size<=s.heap.objs.size
 funs:s.heap.FunFrames base outer
 frf:∀b∈Rc outer,H b=none
 hok:DF P w H s.heap
 bare:AllBare s.gens
structure Env0(P:Program)(w:World)(K:n9)(mg:Str->Option Value)(base:Heap)(A:Around)(outer:List Env)(s:Shared)(H:Hp):Prop extends Env0w P w K mg base A outer s H where
 pos:0<s.toks
def CE(outer:List Env)(P:Program)(w:World)(H:Hp)(s:Shared)(Q:VK)(u:Value)(s':Shared):Prop:=
 ∃v H',s'.os=s.os/\AllBare s'.gens/\Un (Rc outer) [] H H' s.heap s'.heap/\DF P w H' s'.heap/\RelV v u/\Q v H'
def CR(CX:Mc)(outer:List Env)(P:Program)(w:World)(H:Hp)(s:Shared)(Q:VK)(E:XK)(r:Result)(s':Shared):Prop:=
 match r with
 | .ok (.ret u)=>CE outer P w H s Q u s'
 | .ok _=>False
 | .error e=>CX outer H s E e s'
structure FnOk(P:Program)(w:World)(K:n9)(mg:Str->Option Value)(base:Heap)(CX:Mc)(k:Nat)(f:Addr)(fd:FuncData)(ps:List Str)(sp:Sp):Prop where
 len:∀vs H Q E,sp vs H Q E->vs.length=ps.length
 run:∀(A:Around) (outer:List Env) (s:Shared) (H:Hp) (args:Args) (us:List Value) (vs:List V) (Q:VK) (E:XK),Room k A->Env0 P w K mg base A outer s H->BindsTo s fd args (ps.zip us)->y7 vs us->sp vs H Q E->
  codeAny (model P w) A (.call (.ref f) args) (CR CX outer P w H s Q E) s
structure FnOkL(P:Program)(w:World)(K:n9)(mg:Str->Option Value)(base:Heap)(CX:Mc)(k:Nat)(f:Addr)(fd:FuncData)(ps:List Str)(sp:Sp):Prop where
 len:∀vs H Q E,sp vs H Q E->vs.length=ps.length
 run:∀(A:Around) (outer:List Env) (s:Shared) (H:Hp) (args:Args) (us:List Value) (vs:List V) (Q:VK) (E:XK),Room k A->Env0w P w K mg base A outer s H->BindsTo s fd args (ps.zip us)->y7 vs us->sp vs H Q E->
  codeAny (model P w) A (.call (.ref f) args) (CR CX outer P w H s Q E) s
theorem Env0.make{P:Program}{w:World}{K:n9}{mg:Str->Option Value}{base:Heap}{A:Around}{outer:List Env}{s:Shared}{H:Hp}(e:Env0 P w K mg base A outer s H)(C:Addr)(us:List Value)(kw:List (Str×Value)):
  Env0 P w K mg base (A.under (.builtin "type.__call__" ⟨.ref C::us,kw⟩)) outer s H:=⟨⟨by first|exact e.frames|(simpa [Around.under,Code.envs,Code.isFrame,pushEnvs] using e.frames),e.mod,e.bs,e.bsz,e.funs,e.frf,e.hok,e.bare⟩,e.pos⟩
section
variable {X:Cx} {c7:List (Addr×Obj)} {σ:St} {H:Hp} {s s':Shared}
theorem Inv.env0(I:Inv X c7 σ H s):Env0 X.prog X.w X.K X.mg X.base X.A X.stack s H:=
 ⟨⟨I.ok.frames,I.ok.mod,I.bs,Ad I.ok.bsz I.sz,I.stack,I.stkFree,I.hok,I.bare⟩,I.pos⟩
theorem Inw.after{Q:VK}{u:Value}(I:Inw X c7 σ H s)(h:CE X.stack X.prog X.w H s Q u s'):EP X c7 σ Q u s':=by
 obtain⟨v,H',os,bare,un,hok,r,q⟩:=h
 obtain⟨hh,g,d,t,os'⟩:=s'
 obtain rfl:os'=s.os:=os
 exact⟨v,H',I.call (h':=hh) (g':=g) (d':=d) (t':=t) (ch:=[]) un hok bare (fun b z=>absurd z (by simp)),r,q⟩
end
def HH(sp:Sp)(dvs:List V)(E:XK)(t:TA):TE:=fun σ H Q=>t σ H fun vs H1=>sp (vs++dvs) H1 Q E
def NT(C:Addr)(m:Str)(sp:Sp)(dvs:List V)(E:XK)(ta:TE)(t:TA):TE:=fun σ H Q=>ta σ H fun x H1=>∃a dx fs,x= .ref a/\H1 a=some (.ins C dx fs)/\fs.lookup m=none/\
 t σ H1 fun vs H2=>sp (x::(vs++dvs)) H2 Q E
def RH(C:Addr)(sp:Sp)(dvs:List V)(E:XK)(t:TA):TE:=fun σ H Q=>t σ H fun vs H1=>∀x dx,H1 x=none->H1 dx=none->dx≠x->
 sp (.ref x::(vs++dvs)) (upd (upd H1 dx (.own x)) x (.ins C dx [])) (fun v H2=>v= .non/\Q (.ref x) H2) E
def Binds(K:n9)(fd:FuncData)(ps:List Str)(ds:List Value):Prop:=
 ∀(s:Shared) (us:List Value),K.In s.heap->(us++ds).length=ps.length->BindsTo s fd ⟨us,[]⟩ (ps.zip (us++ds))
theorem Binds.all{K:n9}{fd:FuncData}{ps:List Str}(h:∀us:List Value,us.length=ps.length->bindArgs fd ⟨us,[]⟩=pure (ps.zip us)):Binds K fd ps []:=fun s us _ hl=>by
 rw[List.append_nil] at hl⊢
 exact .of_eq (h us hl)
def BM(CX:Mc)(X:Cx)(E:XK):Prop:=∀(c7:List (Addr×Obj)) (σ:St) (H:Hp) (s:Shared) (e:Value) (s':Shared),Inv X c7 σ H s->CX X.stack H s E e s'->X.xe e s'
section
variable {X:Cx} {CX:Mc} {k:Nat} {f C:Addr} {fd:FuncData} {ps:List Str} {sp:Sp} {dvs:List V} {ds:List Value} {E:XK} {x m:Str} {p pos apos:Pos} {e o:Expr} {es:List Expr} {ta:TE} {t:TA}
theorem FT{c7:List (Addr×Obj)}{σ:St}{H:Hp}{s:Shared}{Q:VK}{us:List Value}{vs:List V}(F:FnOk X.prog X.w X.K X.mg X.base CX k f fd ps sp)(hr:Room k X.A)(hb:Binds X.K fd ps ds)(hd:y7 dvs ds)(hx:BM CX X E)
  (I:Inv X c7 σ H s)(r:y7 vs us)(h:sp (vs++dvs) H Q E):wpAny (model X.prog X.w) X.A (call (.ref f) us) (EP X c7 σ Q) X.xe s:=by
 have r2:y7 (vs++dvs) (us++ds):=r.append hd
 have hl:(us++ds).length=ps.length:=by rw[<-r2.length];exact F.len _ _ _ _ h
 refine wpAny_call (LK (F.run X.A X.stack s H ⟨us,[]⟩ (us++ds) (vs++dvs) Q E hr I.env0 (hb s us I.kIn hl) r2 h) fun r s' hq=> ?_)
 cases r with
 |error e=>exact hx c7 σ H s e s' I hq
 |ok fl=>
  cases fl with
  |ret u=>exact I.after hq
  |next=>exact False.elim hq
  |brk=>exact False.elim hq
  |cont=>exact False.elim hq
theorem i9(F:FnOk X.prog X.w X.K X.mg X.base CX k f fd ps sp)(hr:Room k X.A)(hg:Gl X x)(hm:X.mg x=some (.ref f))(hk:PySem.W.keepIn X.K (.ref f)=true)(hb:Binds X.K fd ps ds)(hd:y7 dvs ds)(hx:BM CX X E)
  (ha:PA X (e::es) t)(Nb:(x==("__debug__":Str))=false:=by decide)(he:starEach (e::es) X.env=(false,eval e X.env)::starEach es X.env:=by rfl)(Hf:(backTo pos (starEach es X.env)).any (·.1)=false:=by rfl):
  PE X (.Call (.Name x p) (e::es) [] pos) (HH sp dvs E t):=by
 intro c7 s σ H Q I h
 refine Is (Ed I hg hm ?_ Nb)
 refine Po (h₀:=X.base) I.ok.mod.kin hk (P0 (ha pos c7 s σ H _ I h) fun us s1 ⟨vs,H1,I1,r,q⟩=>⟨I1.kIn,?_⟩) he Hf
 exact FT F hr hb hd hx I1 r q
theorem Tr(F:FnOk X.prog X.w X.K X.mg X.base CX k f fd ps sp)(hr:Room k X.A)(hg:Gl X x)(hm:X.mg x=some (.ref f))(hk:PySem.W.keepIn X.K (.ref f)=true)(hb:Binds X.K fd ps ds)(hd:y7 dvs ds)(hx:BM CX X E)
  (Nb:(x==("__debug__":Str))=false:=by decide):PE X (.Call (.Name x p) [] [] pos) (HH sp dvs E Kl):=by
 intro c7 s σ H Q I h
 refine Is (Ed I hg hm ?_ Nb)
 exact YU I.kIn hk (FT (us:=[]) F hr hb hd hx I .nil h)
theorem X6{pl:Sem Bool}(he:PE X o ta)(c:Cls X.K C)(hm:Meth X.K C m f)(F:FnOk X.prog X.w X.K X.mg X.base CX k f fd ps sp)(hr:Room k X.A)(hb:Binds X.K fd ps ds)(hd:y7 dvs ds)(hx:BM CX X E)(ha:PA X (e::es) t)
  (Gj:starEach (e::es) X.env=(false,eval e X.env)::starEach es X.env:=by rfl)(Hf:(backTo pos (starEach es X.env)).any (·.1)=false:=by rfl)
  (ht:eval (.Call (.Attribute o m apos) (e::es) [] pos) X.env=(do
   let ov<-eval o X.env
   standAt apos.atName
   let (f,first)<-holding [ov] (getMethod ov m pl)
   callWith pos f first (backTo pos (starEach (e::es) X.env)) (backToKw pos (keywordEach [] X.env))):=by rfl):
  PE X (.Call (.Attribute o m apos) (e::es) [] pos) (NT C m sp dvs E ta t):=by
 intro c7 s σ H Q I h
 refine YT (pl:=pl) (P0 (he c7 s σ H _ I h) fun u s1 ⟨x,H1,I1,rx,a,dx,fs,ex,ea,l,q⟩=> ?_) ht
 subst ex
 obtain rfl:u=Value.ref a:=rx
 refine Go I1 ea c hm l ?_
 refine Po (first:=[.ref a]) (h₀:=X.base) I.ok.mod.kin hm.kp (P0 (ha pos c7 s1 σ H1 _ I1 q) fun us s2 ⟨vs,H2,I2,r,q2⟩=>⟨I2.kIn,?_⟩) Gj Hf
 exact FT (us:= .ref a::us) (vs:= .ref a::vs) F hr hb hd hx I2 (.cons rfl r) q2
theorem A6{pl:Sem Bool}(he:PE X o ta)(c:Cls X.K C)(hm:Meth X.K C m f)(F:FnOk X.prog X.w X.K X.mg X.base CX k f fd ps sp)(hr:Room k X.A)(hb:Binds X.K fd ps ds)(hd:y7 dvs ds)(hx:BM CX X E)
  (ht:eval (.Call (.Attribute o m apos) [] [] pos) X.env=(do
   let ov<-eval o X.env
   standAt apos.atName
   let (f,first)<-holding [ov] (getMethod ov m pl)
   callWith pos f first (backTo pos (starEach [] X.env)) (backToKw pos (keywordEach [] X.env))):=by rfl):
  PE X (.Call (.Attribute o m apos) [] [] pos) (NT C m sp dvs E ta Kl):=by
 intro c7 s σ H Q I h
 refine YT (pl:=pl) (P0 (he c7 s σ H _ I h) fun u s1 ⟨x,H1,I1,rx,a,dx,fs,ex,ea,l,q⟩=> ?_) ht
 subst ex
 obtain rfl:u=Value.ref a:=rx
 refine Go I1 ea c hm l ?_
 exact YU (first:=[.ref a]) I1.kIn hm.kp (FT (us:=[.ref a]) (vs:=[.ref a]) F hr hb hd hx I1 (.cons rfl .nil) q)
structure Mk(K:n9)(C f:Addr):Prop where
 makes:PySem.W.makesIn K C=true
 init:PySem.W.findIn K (.ref C) "__init__"=some (some (.ref f))
 fn:PySem.W.isFn K (.ref f)=true
 kp:PySem.W.keepIn K (.ref C)=true
theorem SV{c7:List (Addr×Obj)}{σ:St}{H:Hp}{s:Shared}{Q:VK}{us:List Value}{vs:List V}(M:Mk X.K C f)(F:FnOk X.prog X.w X.K X.mg X.base CX k f fd ps sp)(hr:Room (k+1) X.A)(hb:Binds X.K fd ps ds)(hd:y7 dvs ds)
  (hx:BM CX X E)(I:Inv X c7 σ H s)(r:y7 vs us)
  (h:∀x dx,H x=none->H dx=none->dx≠x->sp (.ref x::(vs++dvs)) (upd (upd H dx (.own x)) x (.ins C dx [])) (fun v H2=>v= .non/\Q (.ref x) H2) E):
  wpAny (model X.prog X.w) X.A (call (.ref C) us) (EP X c7 σ Q) X.xe s:=by
 have hq:=h (s.heap.objs.size+1) s.heap.objs.size (I.hok.fresh (LJ _)) (I.hok.fresh (l9 _)) (M7 (GK _))
 have I2:Inv X c7 σ _ _:=⟨Inw.made (C:=C) I.toInw,I.pos⟩
 have r2:y7 (V.ref (s.heap.objs.size+1)::(vs++dvs)) (Value.ref (s.heap.objs.size+1)::(us++ds)):= .cons rfl (r.append hd)
 have hl:(Value.ref (s.heap.objs.size+1)::us++ds).length=ps.length:=by
  have e:=r2.length
  rw[F.len _ _ _ _ hq] at e
  exact e.symm
 refine wpAny_call (Ub (f:=f) I.kIn M.makes M.init (LL.mp M.fn) (LK (F.run _ X.stack _ _ ⟨Value.ref (s.heap.objs.size+1)::us,[]⟩ (Value.ref (s.heap.objs.size+1)::(us++ds)) _ _ E (hr.make C us [])
  (I2.env0.make C us []) (hb _ (Value.ref (s.heap.objs.size+1)::us) I2.kIn hl) r2 hq) fun r s' hq'=> ?_))
 cases r with
 |error e=>exact hx c7 σ _ _ e s' I2 hq'
 |ok fl=>
  cases fl with
  |ret u=>
   obtain⟨v,H',I3,rv,ev,q3⟩:=I2.after hq'
   subst ev
   exact⟨rv,⟨V.ref (s.heap.objs.size+1),H',I3,rfl,q3⟩⟩
  |next=>exact False.elim hq'
  |brk=>exact False.elim hq'
  |cont=>exact False.elim hq'
theorem Jf(M:Mk X.K C f)(F:FnOk X.prog X.w X.K X.mg X.base CX k f fd ps sp)(hr:Room (k+1) X.A)(hg:Gl X x)(hm:X.mg x=some (.ref C))(hb:Binds X.K fd ps ds)(hd:y7 dvs ds)(hx:BM CX X E)
  (ha:PA X (e::es) t)(Nb:(x==("__debug__":Str))=false:=by decide)(he:starEach (e::es) X.env=(false,eval e X.env)::starEach es X.env:=by rfl)(Hf:(backTo pos (starEach es X.env)).any (·.1)=false:=by rfl):
  PE X (.Call (.Name x p) (e::es) [] pos) (RH C sp dvs E t):=by
 intro c7 s σ H Q I h
 refine Is (Ed I hg hm ?_ Nb)
 refine Po (h₀:=X.base) I.ok.mod.kin M.kp (P0 (ha pos c7 s σ H _ I h) fun us s1 ⟨vs,H1,I1,r,q⟩=>⟨I1.kIn,?_⟩) he Hf
 exact SV M F hr hb hd hx I1 r q
end
section
variable {X:Cx} {CX:Mc} {k:Nat} {f C:Addr} {fd:FuncData} {ps ks:List Str} {sp:Sp} {E:XK} {x m:Str} {p pos apos kpos:Pos} {e o:Expr} {es:List Expr} {kws:List Keyword} {te ta:TE} {t tk:TA} {nm:Option Str}
structure KBinds(K:n9)(fd:FuncData)(ps ks:List Str)(g:List Value->List Value->List Value)(gV:List V->List V->List V):Prop where
 to:∀(s:Shared) (us ws:List Value),K.In s.heap->(g us ws).length=ps.length->BindsTo s fd ⟨us,ks.zip ws⟩ (ps.zip (g us ws))
 rel:∀{vs:List V} {us:List Value} {zs:List V} {ws:List Value},y7 vs us->y7 zs ws->y7 (gV vs zs) (g us ws)
variable {g:List Value->List Value->List Value} {gV:List V->List V->List V}
end
structure FnScope(N P:List Str)(sc:Scope):Prop where
 kind:sc.kind= .function
 co:sc.isCoroutine=false
 gen:sc.isGenerator=false
 nd:N.Nodup
 pre:N.take P.length=P
 par:∀x∈P,sc.names.lookup x=some .local\/sc.names.lookup x=some .cell
 nofree:∀y∈sc.names,y.2≠ .free
theorem Il{kindOf:Str->Option NameKind}{x:Str}:∀{binds:List (Str×Value)} {m:Str->Option Value},(∀v,(x,v)∉binds)->bindL kindOf binds m x=m x
 |[],_,_=>rfl
 |(n,v)::r,m,h=>by
  unfold bindL
  rw[Il fun w hw=>h w (D5 _ hw)]
  split
  ·have:x≠n:=by rintro rfl;exact h v C0
   simp [this]
  ·rfl
theorem Io{kindOf:Str->Option NameKind}{x:Str}:∀{binds:List (Str×Value)} {m:Str->Option Value},(∀v,(x,v)∉binds)->bindC kindOf binds m x=m x
 |[],_,_=>rfl
 |(n,v)::r,m,h=>by
  unfold bindC
  rw[Io fun w hw=>h w (D5 _ hw)]
  split
  ·rfl
  ·have:x≠n:=by rintro rfl;exact h v C0
   simp [this]
theorem Im{kindOf:Str->Option NameKind}{x:Str}{v:Value}:∀{P:List Str} {vs:List Value} {i:Nat} {m:Str->Option Value},P.Nodup->P[i]? =some x->vs[i]? =some v->kindOf x=some .local->
  bindL kindOf (P.zip vs) m x=some v
 |[],_,_,_,_,h,_,_=>by simp at h
 |_::_,[],_,_,_,_,h,_=>by simp at h
 |p::P,w::vs,0,m,nd,h1,h2,hk=>by
  simp at h1 h2;subst h1;subst h2
  show bindL kindOf ((p,w)::P.zip vs) m p=_
  unfold bindL
  rw[Il fun v hv=>(Y3.mp nd).1 (Pn hv).1,if_pos hk]
  simp
 |p::P,w::vs,i+1,m,nd,h1,h2,hk=>by
  show bindL kindOf ((p,w)::P.zip vs) m x=_
  unfold bindL
  exact Im (i:=i) (Y3.mp nd).2 (by simpa using h1) (by simpa using h2) hk
theorem Ip{kindOf:Str->Option NameKind}{x:Str}{v:Value}:∀{P:List Str} {vs:List Value} {i:Nat} {m:Str->Option Value},P.Nodup->P[i]? =some x->vs[i]? =some v->kindOf x≠some .local->
  bindC kindOf (P.zip vs) m x=some v
 |[],_,_,_,_,h,_,_=>by simp at h
 |_::_,[],_,_,_,_,h,_=>by simp at h
 |p::P,w::vs,0,m,nd,h1,h2,hk=>by
  simp at h1 h2;subst h1;subst h2
  show bindC kindOf ((p,w)::P.zip vs) m p=_
  unfold bindC
  rw[Io fun v hv=>(Y3.mp nd).1 (Pn hv).1,if_neg hk]
  simp
 |p::P,w::vs,i+1,m,nd,h1,h2,hk=>by
  show bindC kindOf ((p,w)::P.zip vs) m x=_
  unfold bindC
  exact Ip (i:=i) (Y3.mp nd).2 (by simpa using h1) (by simpa using h2) hk
def start(N:List Str)(vs:List V):St:=vs.map some++List.replicate (N.length-vs.length) none
def Hz(CX:Mc)(P:Program)(w:World)(K:n9)(mg:Str->Option Value)(base:Heap)(N:List Str)(qual:Str)(scope:Scope)(f:Addr)(cd:Value)(A:Around)(outer:List Env)(s:Shared)(H:Hp)(E:XK):Cx where
 prog:=P
 w:=w
 K:=K
 mg:=mg
 base:=base
 A:=A.deeper (envOfC qual scope s.heap.objs.size f cd)
 N:=N
 s₀:=s
 H₀:=H
 env:=envOfC qual scope s.heap.objs.size f cd
 outer:=outer
 stack:=envOfC qual scope s.heap.objs.size f cd::outer
 ex:=[]
 calm:=true
 fn:=fun _=>true
 pn:=[]
 xe:=fun e s'=>wpAny (model P w) (A.deeper (envOfC qual scope s.heap.objs.size f cd)) (leaving (envOfC qual scope s.heap.objs.size f cd) e) (fun _ s''=>CX outer H s E e s'') (fun e' s''=>CX outer H s E e' s'') s'
theorem LD{sc:Scope}{n:Nat}{x:Str}(h:sc.names.lookup x=some .cell):∃c,(cellsFrom n sc.names []).lookup x=some c:=by
 have q:=Vd sc.names n [] (.inl h)
 exact GJ.mp q
theorem Ie{CX:Mc}{P:Program}{w:World}{K:n9}{mg:Str->Option Value}{base:Heap}{N ps:List Str}{qual:Str}{scope:Scope}{f:Addr}{cd:Value}{A:Around}{outer:List Env}{s s1:Shared}{H:Hp}{E:XK}{us:List Value}{vs:List V}
  (S:FnScope N ps scope)(hd:A.handled=none)(e0:Env0w P w K mg base A outer s H)(hl:vs.length=ps.length)(r:y7 vs us)
  (x:InCallC s s.heap.objs.size (bindL (envOfC qual scope s.heap.objs.size f cd).kindOf (ps.zip us) fun _=>none) (cellsFrom (s.heap.objs.size+1) scope.names []) (bindC (envOfC qual scope s.heap.objs.size f cd).kindOf (ps.zip us) fun _=>none) s1):
  Inw (Hz CX P w K mg base N qual scope f cd A outer s H E) [] (start N vs) H s1:=by
 have Hf:ps.length<=N.length:=by have:=congrArg List.length S.pre;rw[I9] at this;omega
 obtain⟨h1,tk,rfl,hk⟩:=x.done
 have noA:∀b:Addr,b∉(Hz CX P w K mg base N qual scope f cd A outer s H E).ex:=fun b z=>absurd (show b∈([]:List Addr) from z) (by simp)
 refine⟨⟨e0.mod,S.kind,rfl,rfl,l9 _,fun y z c h1 h2=> ?_,fun y hy=> ?_,fun y c _ h=> ?_,fun _=>hd,Around.frames_deeper e0.frames, .inr ⟨rfl,rfl⟩,fun b z=>absurd z (noA b),e0.bs,e0.bsz,fun b _ _=>noA b,fun b z=>absurd z (noA b),e0.funs,e0.frf⟩,
  rfl,e0.bare,Un.kept hk,⟨_,x.toInCall.ns,fun i y v h1 h2 h3=> ?_⟩,fun y c h=>⟨_,x.cell y c h⟩,e0.hok.fresh (l9 _),fun y c h=> ?_,fun p hp=>absurd (show p∈([]:List (Addr×Obj)) from hp) (by simp),e0.hok.kept hk,?_⟩
 ·exact name_of_addr x.apart (En h1) (En h2)
 ·have hy:scope.names.lookup y=some .cell\/scope.names.lookup y=some .free:=hy
  rcases hy with hy|hy
  ·exact LD hy
  ·exact absurd rfl (S.nofree _ (En hy))
 ·exact Dh (x.above y c (En h))
 ·have hi:i<vs.length:=by
   unfold start at h2
   by_cases hi:i<vs.length
   ·exact hi
   ·rw[Em (by simpa using hi)] at h2
    rw[List.getElem?_replicate] at h2
    split at h2<;>cases h2
  have ha:vs[i]? =some v:=by
   unfold start at h2
   rw[GI (by simpa using hi),u8] at h2
   cases e:vs[i]? with
   |none=>rw[e] at h2;cases h2
   |some a=>rw[e] at h2;cases h2;rfl
  obtain⟨u,hu,rv⟩:=r.get ha
  have hp:ps[i]? =some y:=by
   rw[<-S.pre,List.getElem?_take_of_lt (by omega)];exact h1
  have ndP:ps.Nodup:=by rw[<-S.pre];exact S.nd.sublist (Ir _ _)
  refine⟨u,rv,?_⟩
  rcases S.par y (E7 hp) with k|k
  ·exact .inl ⟨k,Im ndP hp hu k⟩
  ·obtain⟨c,e⟩:=LD (n:=s.heap.objs.size+1) k
   refine .inr ⟨.inl k,c,e,?_⟩
   have q:=x.cell y c e
   rw[Ip ndP hp hu (by show scope.names.lookup y≠_;rw[k];decide)] at q
   exact q
 ·exact e0.hok.fresh (Dh (x.above y c (En h)))
 ·unfold start
  show _=N.length
  rw[l0,i5,Pm]
  omega
theorem Qc2{CX:Mc}{P:Program}{w:World}{K:n9}{mg:Str->Option Value}{base:Heap}{k:Nat}{f:Addr}{name qual:Str}{params:Arguments}{body:List Stmt}{scope:Scope}{dV kV doc pm H9 ct oc:Value}{an od:Option Addr}
  {osl:Array (Option Value)}{N ps:List Str}{sp:Sp}(lk:K.lookup f=some ⟨oc,od, .func (PySem.W.fnOf name qual params body scope dV kV doc pm an H9 ct),osl⟩)(Lo:PySem.W.codeIn K H9 qual=true)(S:FnScope N ps scope)
  (len:∀vs H Q E,sp vs H Q E->vs.length=ps.length)
  (Gm:∀(A:Around) (outer:List Env) (s:Shared) (H:Hp) (vs:List V) (Q:VK) (E:XK),Room k (A.deeper (envOfC qual scope s.heap.objs.size f H9))->sp vs H Q E->
   ∃t,Mb (Hz CX P w K mg base N qual scope f H9 A outer s H E) body t/\t {nx:=fun _ H'=>Q .non H',rt:=Q} (start N vs) H):
  FnOk P w K mg base CX (k+1) f (PySem.W.fnOf name qual params body scope dV kV doc pm an H9 ct) ps sp:=by
 refine⟨len,fun A outer s H args us vs Q E hr e0 hb r Qs=> ?_⟩
 have hl:=len _ _ _ _ Qs
 have KX:K.In s.heap:=e0.mod.kin.keeps fun b o e=>(e0.bs b o e).1
 have lim:s.heap.NoLimit:=e0.mod.nolimit.keeps fun b o e=>(e0.bs b o e).1
 have hkind:∀y∈ps.zip us,scope.names.lookup y.1=some .local\/(scope.names.lookup y.1=some .cell/\((cellsFrom (s.heap.objs.size+1) scope.names []).lookup y.1).isSome=true):=fun⟨n,v⟩ hy=>by
  rcases S.par n (Pn hy).1 with q|q
  ·exact .inl q
  ·exact .inr ⟨q,Vd _ _ _ (.inl q)⟩
 refine codeAny_call_function hr.depth (KX _ _ lk) rfl S.co S.gen rfl (YS KX Lo) (hb _ _ _ _ ?_)
 refine W6 e0.pos (YR S.kind hkind fun env he s1 x z1=> ?_)
 subst he
 refine⟨lim.keeps x.toInCall.keep,codeAny_func ?_⟩
 obtain⟨t,ht,hq⟩:=Gm A outer s H vs Q E (hr.deeper _) Qs
 have I:Inw (Hz CX P w K mg base N qual scope f H9 A outer s H E) [] (start N vs) H s1:=Ie S hr.hd e0.toEnv0w hl r x
 refine U2 (ht [] s1 (start N vs) H _ ⟨I,z1⟩ hq) (fun fl s' hs=> ?_) fun e s' hs=>hs
 have fin:∀{σ':St} {H':Hp} {v:V} {u:Value},Inw (Hz CX P w K mg base N qual scope f H9 A outer s H E) [] σ' H' s'->RelV v u->Q v H'->CE outer P w H s Q u s':=
  fun{σ' H' v u} J rv q=>⟨v,H',J.os,J.bare,J.base,J.hok,rv,q⟩
 cases fl with
 |ret u=>
  obtain⟨v,σ',H',J,rv,q⟩:=hs
  exact fin J rv q
 |next=>
  obtain⟨σ',H',J,q⟩:=hs
  exact fin (v:=V.non) (u:=Value.none) J rfl q
 |brk=>
  obtain⟨_,_,_,q⟩:=hs
  exact False.elim q
 |cont=>
  obtain⟨_,_,_,q⟩:=hs
  exact False.elim q
def QU(X:Cx)(st:List Stmt)(t:TS):Prop:=
 ∀(c7:List (Addr×Obj)) (s:Shared) (σ:St) (H:Hp) (D:Ends),Inw X c7 σ H s->t D σ H->wpAny (model X.prog X.w) X.A (execs st X.env) (SP X c7 D) X.xe s
def PSW(X:Cx)(st:Stmt)(t:TS):Prop:=
 ∀(c7:List (Addr×Obj)) (s:Shared) (σ:St) (H:Hp) (D:Ends),Inw X c7 σ H s->t D σ H->wpAny (model X.prog X.w) X.A (exec st X.env) (Rf X c7 D) X.xe s
theorem Qe{X:Cx}{st:Stmt}{Av:List Stmt}{t u:TS}(h1:PSW X st t)(h2:Mb X Av u):QU X (st::Av) (Wm t u):=by
 intro c7 s σ H D I h
 refine Vi (PN (h1 c7 s σ H {D with nx:=u D} I h) fun f s1 q=> ?_)
 cases f with
 |next=>
  obtain⟨σ',H',I',q⟩:=q
  exact h2 c7 s1 σ' H' D I' q
 |ret v=>exact Rf.w q
 |brk=>exact Rf.w q
 |cont=>exact Rf.w q
theorem QU.nox{X:Cx}{st:List Stmt}{t:TS}(h:QU X.nox st t):QU X st t:=fun c7 s σ H D I hw=>
 U2 (h c7 s σ H D (I.wish _) hw) (fun _ _ q=>q.unwish) fun _ _ z=>False.elim z
theorem Qbn{CX:Mc}{P:Program}{w:World}{K:n9}{mg:Str->Option Value}{base:Heap}{k:Nat}{f:Addr}{name qual:Str}{params:Arguments}{body:List Stmt}{scope:Scope}{dV kV doc pm H9 ct oc:Value}{an od:Option Addr}
  {osl:Array (Option Value)}{N ps:List Str}{sp:Sp}(lk:K.lookup f=some ⟨oc,od, .func (PySem.W.fnOf name qual params body scope dV kV doc pm an H9 ct),osl⟩)(Lo:PySem.W.codeIn K H9 qual=true)(S:FnScope N ps scope)
  (len:∀vs H Q E,sp vs H Q E->vs.length=ps.length)
  (Gm:∀(A:Around) (outer:List Env) (s:Shared) (H:Hp) (vs:List V) (Q:VK) (E:XK),Room k (A.deeper (envOfC qual scope s.heap.objs.size f H9))->sp vs H Q E->
   ∃t,QU (Hz CX P w K mg base N qual scope f H9 A outer s H E) body t/\t {nx:=fun _ H'=>Q .non H',rt:=Q} (start N vs) H):
  FnOkL P w K mg base CX (k+1) f (PySem.W.fnOf name qual params body scope dV kV doc pm an H9 ct) ps sp:=by
 refine⟨len,fun A outer s H args us vs Q E hr e0 hb r Qs=> ?_⟩
 have hl:=len _ _ _ _ Qs
 have KX:K.In s.heap:=e0.mod.kin.keeps fun b o e=>(e0.bs b o e).1
 have lim:s.heap.NoLimit:=e0.mod.nolimit.keeps fun b o e=>(e0.bs b o e).1
 have hkind:∀y∈ps.zip us,scope.names.lookup y.1=some .local\/(scope.names.lookup y.1=some .cell/\((cellsFrom (s.heap.objs.size+1) scope.names []).lookup y.1).isSome=true):=fun⟨n,v⟩ hy=>by
  rcases S.par n (Pn hy).1 with q|q
  ·exact .inl q
  ·exact .inr ⟨q,Vd _ _ _ (.inl q)⟩
 refine codeAny_call_function hr.depth (KX _ _ lk) rfl S.co S.gen rfl (YS KX Lo) (hb _ _ _ _ ?_)
 refine YR S.kind hkind fun env he s1 x=> ?_
 subst he
 refine⟨lim.keeps x.toInCall.keep,codeAny_func ?_⟩
 obtain⟨t,ht,hq⟩:=Gm A outer s H vs Q E (hr.deeper _) Qs
 have I:Inw (Hz CX P w K mg base N qual scope f H9 A outer s H E) [] (start N vs) H s1:=Ie S hr.hd e0 hl r x
 refine U2 (ht [] s1 (start N vs) H _ I hq) (fun fl s' hs=> ?_) fun e s' hs=>hs
 have fin:∀{σ':St} {H':Hp} {v:V} {u:Value},Inw (Hz CX P w K mg base N qual scope f H9 A outer s H E) [] σ' H' s'->RelV v u->Q v H'->CE outer P w H s Q u s':=
  fun{σ' H' v u} J rv q=>⟨v,H',J.os,J.bare,J.base,J.hok,rv,q⟩
 cases fl with
 |ret u=>
  obtain⟨v,σ',H',J,rv,q⟩:=hs
  exact fin J rv q
 |next=>
  obtain⟨σ',H',J,q⟩:=hs
  exact fin (v:=V.non) (u:=Value.none) J rfl q
 |brk=>
  obtain⟨_,_,_,q⟩:=hs
  exact False.elim q
 |cont=>
  obtain⟨_,_,_,q⟩:=hs
  exact False.elim q
section
variable {X:Cx} {x:Str} {p pos:Pos} {e:Expr} {es:List Expr} {t:TA} {id T:String} {r:List V->Hp->VK->Prop}
def tCB(r:List V->Hp->VK->Prop)(t:TA):TE:=fun σ H Q=>t σ H fun vs H1=>r vs H1 Q
theorem j6(hc:Ae X (.builtin id) r)(hg:Gl X x)(hm:X.mg x=none)(hv:bootBuiltins x=some (.builtin id))(ha:PA X (e::es) t)(hn:x≠"__name__":=by decide)(Nb:(x==("__debug__":Str))=false:=by decide)
  (he:starEach (e::es) X.env=(false,eval e X.env)::starEach es X.env:=by rfl)(Hf:(backTo pos (starEach es X.env)).any (·.1)=false:=by rfl):PE X (.Call (.Name x p) (e::es) [] pos) (tCB r t):=by
 intro c7 s σ H Q I h
 refine Is (Gb I hg hm hv ?_ hn Nb)
 exact PyProof.Rows.callWith_builtin1 (P0 (ha pos c7 s σ H _ I h) fun us s1 ⟨vs,H1,I1,r1,q1⟩=>hc c7 s1 σ H1 vs us Q I1 r1 q1) he Hf
theorem CT(hc:Ae X (.type T) r)(hg:Gl X x)(hm:X.mg x=none)(hv:bootBuiltins x=some (.type T))(ha:PA X (e::es) t)(hn:x≠"__name__":=by decide)(Nb:(x==("__debug__":Str))=false:=by decide)
  (he:starEach (e::es) X.env=(false,eval e X.env)::starEach es X.env:=by rfl)(Hf:(backTo pos (starEach es X.env)).any (·.1)=false:=by rfl):PE X (.Call (.Name x p) (e::es) [] pos) (tCB r t):=by
 intro c7 s σ H Q I h
 refine Is (Gb I hg hm hv ?_ hn Nb)
 exact Vf (P0 (ha pos c7 s σ H _ I h) fun us s1 ⟨vs,H1,I1,r1,q1⟩=>hc c7 s1 σ H1 vs us Q I1 r1 q1) he Hf
end
end L2
namespace HT
open PySem PyProof.Rows
section
open PySem.SeqAt
open PySem.AutoSeq1 (wpAny_loadPart')
open PySem.MeetsSeq PySem.MeetsSeq2 PySem.MeetsSeq3
end
section
variable {prog:Program} {w:World} {A:Around} {E:Value->Shared->Prop} {s:Shared}
def Ey(n d:Nat):Option Int->Nat
 |none=>d
 |some v=>if v<0 then (v+(n:Int)).toNat else min v.toNat n
theorem Om(n d k:Nat):Ey n d (some (k:Int))=min k n:=by
 show (if (k:Int)<0 then ((k:Int)+(n:Int)).toNat else min (k:Int).toNat n)=min k n
 rw[if_neg (by omega),Int.toNat_natCast]
theorem IU(n d:Nat)(hd:d<=n)(o:Option Int):Ey n d o<=n:=by
 cases o with
 |none=>exact hd
 |some v=>
  show (if v<0 then (v+(n:Int)).toNat else min v.toNat n)<=n
  by_cases hv:v<0
  ·rw[if_pos hv];omega
  ·rw[if_neg hv];exact Nat.min_le_right _ _
end
end HT
namespace L2
open PySem PySem.Spec PyProof.Rows
abbrev TO:=St->Hp->(Option Int->Hp->Prop)->Prop
def PO(X:Cx)(e:Option Expr)(t:TO):Prop:=
 ∀(c7:List (Addr×Obj)) (s:Shared) (σ:St) (H:Hp) (Q:Option Int->Hp->Prop),Inv X c7 σ H s->t σ H Q->
  wpAny (model X.prog X.w) X.A (evalPart e X.env) (fun u s'=>∃o H',Inv X c7 σ H' s'/\IsPart u o/\Q o H') X.xe s
def IH:TO:=fun _ H Q=>Q none H
def RE(t:TE):TO:=fun σ H Q=>t σ H fun x H1=>∃i,x= .int i/\Q (some i) H1
section
variable {X:Cx} {e:Expr} {te:TE} {lo hi:Option Expr} {tl th:TO} {pos p2:Pos}
theorem IZ:PO X none IH:=by
 intro c7 s σ H Q I h
 rw[evalPart_none]
 exact J3 ⟨none,H,I, .none,h⟩
theorem BA(h:PE X e te):PO X (some e) (RE te):=by
 intro c7 s σ H Q I hw
 rw[evalPart_some]
 refine P0 (h c7 s σ H _ I hw) fun u s1 ⟨x,H1,I1,r1,q1⟩=> ?_
 obtain⟨i,rfl,q⟩:=q1
 obtain⟨t,rfl⟩:=r1
 exact⟨some i,H1,I1, .int i t,q⟩
def SlR(X:Cx)(r:V->Option Int->Option Int->Hp->VK->Prop):Prop:=
 ∀(c7:List (Addr×Obj)) (s:Shared) (σ:St) (H:Hp) (x:V) (v vl vu:Value) (lo hi:Option Int) (sl:Addr) (Q:VK),Inv X c7 σ H s->RelV x v->s.heap.IsSliceOf sl vl vu .none->IsPart vl lo->IsPart vu hi->r x lo hi H Q->
  ∃T id,typeLookup (.type T) "__getitem__"=pure (some (.builtin id))/\s.TypeIs v T/\wpAny (model X.prog X.w) X.A (getItem v (.ref sl)) (EP X c7 σ Q) X.xe s
def tSl(r:V->Option Int->Option Int->Hp->VK->Prop)(te:TE)(tl th:TO):TE:=fun σ H Q=>te σ H fun x H1=>tl σ H1 fun l H2=>th σ H2 fun u H3=>r x l u H3 Q
theorem Cq{r:V->Option Int->Option Int->Hp->VK->Prop}(hr:SlR X r)(he:PE X e te)(hl:PO X lo tl)(hu:PO X hi th):PE X (.Subscript e (.Slice lo hi none p2) pos) (tSl r te tl th):=by
 intro c7 s σ H Q I h
 refine Subscript_ (P0 (he c7 s σ H _ I h) fun v s1 ⟨x,H1,I1,r1,q1⟩=> ?_)
 refine wpAny_Slice (P0 (hl c7 s1 σ H1 _ I1 q1) fun vl s2 ⟨l,H2,I2,pl,q2⟩=>P0 (hu c7 s2 σ H2 _ I2 q2) fun vu s3 ⟨u,H3,I3,pu,q3⟩=> ?_)
 rw[evalPart_none]
 refine J3 ?_
 have I4:Inw X c7 σ H3 {s3 with heap:=s3.heap.push {cls:= .type "slice",data:= .fields #[vl,vu, .none]}}:=I3.kept (t':=s3.toks) fun b ob q=>Q2 _ q
 obtain⟨T,id,hT,ht,hg⟩:=hr c7 {s3 with heap:=s3.heap.push {cls:= .type "slice",data:= .fields #[vl,vu, .none]}} σ H3 x v vl vu l u s3.heap.objs.size Q ⟨I4,I3.pos⟩ r1 (Heap.IsSliceOf.new ..) pl pu q3
 show wpAny (model X.prog X.w) X.A (subscriptTail e (.Slice lo hi none p2) v (.ref s3.heap.objs.size)) (EP X c7 σ Q) X.xe {s3 with heap:=s3.heap.push {cls:= .type "slice",data:= .fields #[vl,vu, .none]}}
 exact tail_any (ops:=[.ref s3.heap.objs.size,v]) ht hT hg (by with_unfolding_all rfl)
def JD(xs:List V)(lo hi:Option Int):List V:=(xs.drop (HT.Ey xs.length 0 lo)).take (HT.Ey xs.length xs.length hi-HT.Ey xs.length 0 lo)
theorem Lz(xs:List V)(lo hi:Option Int):(JD xs lo hi).length<=xs.length:=by
 unfold JD
 rw[I9,GG]
 omega
end
def Uj(n:Nat)(i:Int):Option Nat:=if 0<=i then (if i<n then some i.toNat else none) else if-(n:Int)<=i then some (i+n).toNat else none
def DI{α:Type}(xs:List α)(i:Int):Option α:=(Uj xs.length i).bind fun j=>xs[j]?
theorem OP{n:Nat}{i:Int}{j:Nat}(h:Uj n i=some j):seqIndex? i n=some j/\j<n/\ -(n:Int)<=i/\i<n:=by
 unfold Uj at h
 by_cases h0:0<=i
 ·rw[if_pos h0] at h
  by_cases h1:i<n
  ·rw[if_pos h1] at h
   have e:i.toNat=j:=Ab h
   exact⟨by rw[seqIndex_of h0 h1,e],by omega,by omega,h1⟩
  ·rw[if_neg h1] at h;cases h
 ·rw[if_neg h0] at h
  by_cases h1: -(n:Int)<=i
  ·rw[if_pos h1] at h
   have e:(i+n).toNat=j:=Ab h
   exact⟨by rw[seqIndex_neg (by omega) h1,e],by omega,h1,by omega⟩
  ·rw[if_neg h1] at h;cases h
theorem JI{α:Type}{xs:List α}{i:Int}{v:α}(h:DI xs i=some v):∃j,seqIndex? i xs.length=some j/\xs[j]? =some v/\j<xs.length/\ -(xs.length:Int)<=i/\i<xs.length:=by
 unfold DI at h
 cases e:Uj xs.length i with
 |none=>rw[e] at h;cases h
 |some j=>
  rw[e] at h
  obtain⟨h1,h2,h3,h4⟩:=OP e
  exact⟨j,h1,h,h2,h3,h4⟩
theorem V9{α:Type}{xs:List α}{j:Nat}{v:α}(h:xs[j]? =some v):DI xs (j:Int)=some v:=by
 have hj:j<xs.length:=(D9.mp h).1
 have e:Uj xs.length (j:Int)=some j:=by
  unfold Uj
  rw[if_pos (by omega),if_pos (by omega)];simp
 unfold DI;rw[e];exact h
def XM(b:Expr):Prop:=∀o i,subscripted b false o i=operate [o,i] (getItem o i)
def Wg(X:Cx)(r:R2):Prop:=
 ∀(value slice:Expr) (c7:List (Addr×Obj)) (s:Shared) (σ:St) (H:Hp) (x y:V) (v u:Value) (Q:VK),Inv X c7 σ H s->RelV x v->RelV y u->r x y H Q->
  subscripted slice false v u=operate [v,u] (getItem v u)->wpAny (model X.prog X.w) X.A (subscriptTail value slice v u) (EP X c7 σ Q) X.xe s
def MtR(X:Cx)(id:String)(r:V->List V->Hp->VK->Prop):Prop:=
 ∀(c7:List (Addr×Obj)) (s:Shared) (σ:St) (H:Hp) (x:V) (xs:List V) (v:Value) (us:List Value) (Q:VK),Inv X c7 σ H s->RelV x v->y7 xs us->r x xs H Q->
  wpAny (model X.prog X.w) X.A (call (.builtin id) (v::us)) (EP X c7 σ Q) X.xe s
section
variable {X:Cx} {a b:Expr} {ta tb:TE} {pos:Pos}
theorem Wg.or{r r':R2}(h:Wg X r)(h':Wg X r'):Wg X (fun x y H Q=>r x y H Q\/r' x y H Q):=by
 intro value slice c7 s σ H x y v u Q I rx ry q hs
 rcases q with q|q
 ·exact h value slice c7 s σ H x y v u Q I rx ry q hs
 ·exact h' value slice c7 s σ H x y v u Q I rx ry q hs
theorem N7{r:R2}(hr:Wg X r)(ha:PE X a ta)(hb:PE X b tb)(hs:XM b):PE X (.Subscript a b pos) (tOp r ta tb):=by
 intro c7 s σ H Q I h
 exact Subscript_ (Qbs ha hb I h fun v u s2 x y H2 I2 rx ry q=>hr a b c7 s2 σ H2 x y v u Q I2 rx ry q (hs _ _))
def Qd(K:n9):R2:=fun x y H Q=>∃p xs i v,x= .ref p/\y= .int i/\o6 K H p xs/\DI xs i=some v/\Q v H
def Qc(K:n9):R2:=fun x y H Q=>∃p xs i v,x= .ref p/\y= .int i/\AG K H p xs/\DI xs i=some v/\Q v H
def Qal:R2:=fun x y H Q=>∃z i c,x= .str z/\y= .int i/\z.length<=sizeLine/\DI z.cps.toList i=some c/\Q (.str ⟨#[c]⟩) H
theorem Xk:Wg X (Qd X.K):=by
 intro value slice c7 s σ H x y v u Q I rx ry h hs
 obtain⟨p,xs,i,z,rfl,rfl,hq,he,q⟩:=h
 cases rx
 obtain⟨t,rfl⟩:=ry
 obtain⟨A0,r,pl,hz⟩:=I.list hq
 obtain⟨j,h1,h2,h3,h4,h5⟩:=JI he
 obtain⟨w,ew,rw'⟩:=r.get h2
 have hl:=r.length
 have hn:=Dr
 have fin:EP X c7 σ Q w s:=⟨z,H,I,rw',q⟩
 by_cases h0:0<=i
 ·have hj:i.toNat=j:=by
   rw[seqIndex_of h0 h5] at h1
   exact Ab h1
  exact item_listR pl.isList h0 (by omega) (by rw[hj];simpa using ew) fin hs
 ·have hj:(i+(A0.toArray.size:Int)).toNat=j:=by
   rw[seqIndex_neg (by omega) h4] at h1
   rw[D8,<-hl]
   exact Ab h1
  exact subscriptTail_builtinR (x:=w) pl.isList.typeIs slot_list_getitem.lookup
   (wpAny_getItem_list_neg (Q:=fun r s'=>r=w/\EP X c7 σ Q r s') pl.isList (by omega) (by rw[D8]<;>omega) (by omega) (by rw[hj];simpa using ew) ⟨rfl,fin⟩) hs
theorem Qa8:Wg X (Qc X.K):=by
 intro value slice c7 s σ H x y v u Q I rx ry h hs
 obtain⟨p,xs,i,z,rfl,rfl,hq,he,q⟩:=h
 cases rx
 obtain⟨t,rfl⟩:=ry
 obtain⟨A0,r,pl,hz⟩:=I.tuple hq
 obtain⟨j,h1,h2,h3,h4,h5⟩:=JI he
 obtain⟨w,ew,rw'⟩:=r.get h2
 have hl:=r.length
 have hn:=Dr
 have fin:EP X c7 σ Q w s:=⟨z,H,I,rw',q⟩
 exact subscriptTail_builtinR (x:=w) pl.typeIs slot_tuple_getitem.lookup
  (getItem_tuple (j:=j) (Q:=fun r s'=>r=w/\EP X c7 σ Q r s') pl (by omega) (by omega) (by rw[D8,<-hl];exact h1) (by simpa using ew) ⟨rfl,fin⟩) hs
theorem Gg:Wg X Qal:=by
 intro value slice c7 s σ H x y v u Q I rx ry h hs
 obtain⟨z,i,c,rfl,rfl,hz,he,q⟩:=h
 obtain⟨t,rfl⟩:=rx
 obtain⟨t',rfl⟩:=ry
 obtain⟨j,h1,h2,h3,h4,h5⟩:=JI he
 have hl:z.cps.toList.length=z.length:=by simp [Str.length]
 rw[hl] at h1 h4 h5
 have hn:=Dr
 exact tail_any (Pk s z t) slot_str_getitem.lookup (getItem_str (c:=c) (by
  have e1:decide (i< -(2^63:Int))=false:=BG (by omega)
  have e2:decide (i≥2^63)=false:=BG (by omega)
  rw[e1,e2,Bool.or_false]) (by rw[h1];simpa using h2) ⟨.str ⟨#[c]⟩,H,I.tok _,⟨_,rfl⟩,q⟩) hs
theorem MP(A0:List Value)(n j:Nat)(u:Value):Obj.mapSeq (·.setIfInBounds j u) {cls:= .type "list",data:= .seq A0.toArray n}={cls:= .type "list",data:= .seq (A0.set j u).toArray n}:=by
 simp [Obj.mapSeq]
theorem Inw.lst{c7:List (Addr×Obj)}{σ:St}{H:Hp}{s:Shared}{p:Addr}{xs:List V}(I:Inw X c7 σ H s)(h:H p=some (.lst xs)):
  ∃(A0:List Value) (n:Nat),y7 xs A0/\s.heap.get? p=some {cls:= .type "list",data:= .seq A0.toArray n}/\xs.length<=sizeLine:=by
 obtain⟨z,A0,n,r,e⟩:=I.hok p _ h
 exact⟨A0,n,r,e,z⟩
theorem Inw.lstUpd{c7:List (Addr×Obj)}{σ:St}{H:Hp}{s:Shared}{p:Addr}{xs ys:List V}{A0 its':List Value}{n n':Nat}{f:Obj->Obj}(I:Inw X c7 σ H s)(h:H p=some (.lst xs))
  (ho:s.heap.get? p=some {cls:= .type "list",data:= .seq A0.toArray n})(hf:f {cls:= .type "list",data:= .seq A0.toArray n}={cls:= .type "list",data:= .seq its'.toArray n'})(r:y7 ys its')(hz:ys.length<=sizeLine)(t:Nat):
  Inw X c7 σ (upd H p (.lst ys)) {s with heap:=s.heap.update p f,toks:=t}:=by
 have e:(s.heap.update p f).get? p=some {cls:= .type "list",data:= .seq its'.toArray n'}:=by
  rw[Heap.get?_update_self f ho (by rw[hf]<;>rfl),hf]
 refine I.write (x:=p) (e:=p) (by rw[h];trivial) (.inl rfl) (fun b u hb q=>(Heap.get?_update_other _ _ (Y4 hb)).trans q) ⟨_,e⟩ ?_
 exact⟨hz,its',n',r,e⟩
def SZ:V->V->V->Hp->(Hp->Prop)->Prop:=fun o i v H Q=>∃p xs k j,o= .ref p/\i= .int k/\H p=some (.lst xs)/\Uj xs.length k=some j/\Q (upd H p (.lst (xs.set j v)))
theorem Sv:Qc6 X SZ:=by
 intro c7 s σ H o i v ov iv u Q I ro ri rv h
 obtain⟨p,xs,k,j,rfl,rfl,hp,hj,q⟩:=h
 cases ro
 obtain⟨t,rfl⟩:=ri
 obtain⟨A0,n,r,ho,hz⟩:=I.lst hp
 obtain⟨h1,h2,h3,h4⟩:=OP hj
 have hl:=r.length
 have hn:=Dr
 have I':Inw X c7 σ (upd H p (.lst (xs.set j v))) {s with heap:=s.heap.update p (Obj.mapSeq (·.setIfInBounds j u))}:=
  I.lstUpd hp ho (MP A0 n j u) (r.set rv j) (by rw[List.length_set];exact hz) s.toks
 by_cases h0:0<=k
 ·have hk:k.toNat=j:=by
   rw[seqIndex_of h0 h4] at h1
   exact Ab h1
  exact PySem.W.ki_setAt ho h0 (by omega) (by rw[D8,<-hl];exact h4) (by rw[hk];exact⟨_,I',q⟩)
 ·have hk:(k+(A0.toArray.size:Int)).toNat=j:=by
   rw[seqIndex_neg (by omega) h3] at h1
   rw[D8,<-hl]
   exact Ab h1
  exact PySem.W.ki_setBack ho (by omega) (by rw[D8,<-hl];exact h3) (by omega) (by rw[hk];exact⟨_,I',q⟩)
theorem IR(lo hi:Option Int)(n:Nat):(sliceBounds lo hi none n).1 =((HT.Ey n 0 lo:Nat):Int)/\(sliceBounds lo hi none n).2.1 =((HT.Ey n n hi:Nat):Int)/\(sliceBounds lo hi none n).2.2 =1:=by
 refine⟨?_,?_,rfl⟩
 ·cases lo with
  |none=>simp [sliceBounds,HT.Ey]
  |some i=>
   simp only[sliceBounds,HT.Ey,Option.getD_none,show (1:Int)>0 by decide,if_true]
   by_cases h:i<0
   ·simp only[h,if_true]<;>omega
   ·simp only[h,if_false]<;>omega
 ·cases hi with
  |none=>simp [sliceBounds,HT.Ey]
  |some i=>
   simp only[sliceBounds,HT.Ey,Option.getD_none,show (1:Int)>0 by decide,if_true]
   by_cases h:i<0
   ·simp only[h,if_true]<;>omega
   ·simp only[h,if_false]<;>omega
theorem Hq(A0:List Value)(lo hi:Option Int):slicePick A0.toArray lo hi none=((A0.drop (HT.Ey A0.length 0 lo)).take (HT.Ey A0.length A0.length hi-HT.Ey A0.length 0 lo)).toArray:=by
 obtain⟨h1,h2,h3⟩:=IR lo hi A0.toArray.size
 unfold slicePick
 rw[h1,h2,h3]
 simp only[sliceRange_one,pick_run,D8]<;>rfl
def WD(K:n9):V->Option Int->Option Int->Hp->VK->Prop:=fun x lo hi H Q=>∃a xs,x= .ref a/\o6 K H a xs/\∀p,H p=none->Q (.ref p) (upd H p (.lst (JD xs lo hi)))
theorem Wr:SlR X (WD X.K):=by
 intro c7 s σ H x v vl vu lo hi sl Q I rx hs pl pu h
 obtain⟨a,xs,rfl,hx,q⟩:=h
 cases rx
 obtain⟨A0,r,ht,hz⟩:=I.list hx
 have E2:=r.length
 refine⟨"list",_,slot_list_getitem.lookup,ht.isList.typeIs,?_⟩
 refine wpAny_getItem_list_slice ht.isList hs pl pu .none (by simp) ?_ (by rw[D8]<;>omega)
 rw[Hq,<-E2]
 refine⟨.ref s.heap.objs.size,_,I.laid (t':=s.toks) (o:= .lst (JD xs lo hi)) (fun b ob q=>Q2 _ q) (l9 _) ?_,rfl,q _ (I.hok.fresh (l9 _))⟩
 exact⟨Ad (Lz xs lo hi) hz,_,0,(r.drop (HT.Ey xs.length 0 lo)).take (HT.Ey xs.length xs.length hi-HT.Ey xs.length 0 lo),W8 _ rfl⟩
theorem JH:Ae X (.builtin "len") (fun xs H Q=>∃p ys,xs=[.ref p]/\(o6 X.K H p ys\/AG X.K H p ys)/\Q (.int ys.length) H):=by
 intro c7 s σ H xs us Q I r h
 obtain⟨p,ys,rfl,hq,q⟩:=h
 obtain⟨u,rfl,rx⟩:=vals1 r
 cases rx
 have hn:=Dr
 rcases hq with hq|hq
 ·obtain⟨A0,r',pl,hz⟩:=I.list hq
  have E2:=r'.length
  exact Calls.call_len_list pl.isList (by simp only[D8]<;>omega) ⟨.int ys.length,H,I.tok _,⟨s.toks+1,by rw[D8,E2]⟩,q⟩
 ·obtain⟨A0,r',pl,hz⟩:=I.tuple hq
  have E2:=r'.length
  exact len_tuple pl (by simp only[D8]<;>omega) ⟨.int ys.length,H,I.tok _,⟨s.toks+1,by rw[D8,E2]⟩,q⟩
theorem O4:Ae X (.builtin "len") (fun xs H Q=>∃z,xs=[.str z]/\z.length<=sizeLine/\Q (.int z.length) H):=by
 intro c7 s σ H xs us Q I r h
 obtain⟨z,rfl,hz,q⟩:=h
 obtain⟨u,rfl,t,rfl⟩:=vals1 r
 have hn:=Dr
 exact len_str (by omega) ⟨.int z.length,H,I.tok _,⟨_,rfl⟩,q⟩
theorem JG:Ae X (.type "list") (fun xs H Q=>∃p ys,xs=[.ref p]/\(o6 X.K H p ys\/AG X.K H p ys)/\∀l,H l=none->Q (.ref l) (upd H l (.lst ys))):=by
 intro c7 s σ H xs us Q I r h
 obtain⟨p,ys,rfl,hq,q⟩:=h
 obtain⟨u,rfl,rx⟩:=vals1 r
 cases rx
 have fin:∀(A0:List Value),y7 ys A0->ys.length<=sizeLine->∀(h':Heap) (c':Nat),(∀b o',s.heap.get? b=some o'->h'.get? b=some o')->
   h'.get? s.heap.objs.size=some {cls:= .type "list",dict:=none,data:= .seq A0.toArray c',slots:= #[]}->EP X c7 σ Q (.ref s.heap.objs.size) {s with heap:=h'}:=fun A0 r' hz h' c' kp e=>
  ⟨.ref s.heap.objs.size,_,I.laid (t':=s.toks) kp (l9 _) (show J4 X.prog X.w _ h' _ (.lst ys) from ⟨hz,A0,c',r',e⟩),rfl,q _ (I.hok.fresh (l9 _))⟩
 rcases hq with hq|hq
 ·obtain⟨A0,r',pl,hz⟩:=I.list hq
  have E2:=r'.length
  obtain⟨o,ho,hc,n,hd⟩:=pl.isList
  exact call_list_seq p (.inl rfl) ho hc hd (fun h' c' kp e=>fin A0 r' hz h' c' kp e) (by simp only[D8]<;>omega)
 ·obtain⟨A0,r',pl,hz⟩:=I.tuple hq
  have E2:=r'.length
  obtain⟨o,ho,hc,n,hd⟩:=pl
  exact call_list_seq p (.inr rfl) ho hc hd (fun h' c' kp e=>fin A0 r' hz h' c' kp e) (by simp only[D8]<;>omega)
def tyV(K:n9)(T:String)(x:V)(H:Hp):Prop:=match x with
 | .str _=>T="str"
 | .int _=>T="int"
 | .ref p=>(T="list"/\∃xs,o6 K H p xs)\/(T="tuple"/\∃o,K.lookup p=some o/\o.cls= .type "tuple"/\o.dict=none)\/
   (T="dict"/\((∃kvs,H p=some (.dK kvs))\/∃kvs,H p=some (.dT kvs)))\/(T="set"/\∃S n,H p=some (.set S n))
 |_=>False
theorem Rz{c7:List (Addr×Obj)}{σ:St}{H:Hp}{s:Shared}{T:String}{x:V}{v:Value}(I:Inv X c7 σ H s)(r:RelV x v)(ty:tyV X.K T x H):
  s.TypeIs v T/\∀a,v= .ref a->∃ob,s.heap.get? a=some ob/\ob.dict=none:=by
 cases x with
 |str z=>
  obtain⟨t,rfl⟩:=r
  cases (show T="str" from ty)
  exact⟨Pk s z t,fun _ e=>nomatch e⟩
 |int i=>
  obtain⟨t,rfl⟩:=r
  cases (show T="int" from ty)
  exact⟨typeIs_int s i t,fun _ e=>nomatch e⟩
 |ref p=>
  cases r
  rcases ty with ⟨rfl,xs,hq⟩|⟨rfl,o,hk,hc,hd⟩|⟨rfl,hk⟩|⟨rfl,S,n,hk⟩
  ·obtain⟨A0,_,pl,_⟩:=I.list hq
   refine⟨pl.isList.typeIs,fun a e=> ?_⟩
   cases e
   obtain⟨o,n,e,c,hd,_⟩:=pl
   exact⟨o,e,hd⟩
  ·refine⟨⟨o,I.kIn p o hk,hc⟩,fun a e=> ?_⟩
   cases e
   exact⟨o,I.kIn _ o hk,hd⟩
  ·have z:∃o,s.heap.get? p=some o/\o.ExactDict:=by
    rcases hk with ⟨kvs,hk⟩|⟨kvs,hk⟩
    ·obtain⟨_,_,_,_,o,_,_,e,ex,_⟩:=I.hok p _ hk
     exact⟨o,e,ex⟩
    ·obtain⟨_,_,_,_,o,_,_,e,ex,_⟩:=I.hok p _ hk
     exact⟨o,e,ex⟩
   obtain⟨o,e,ex⟩:=z
   refine⟨⟨o,e,ex.1⟩,fun a e2=> ?_⟩
   cases e2
   exact⟨o,e,ex.2.1⟩
  ·obtain⟨o,_,_,_,e,ex,_⟩:=I.hok p _ hk
   refine⟨⟨o,e,ex.1⟩,fun a e2=> ?_⟩
   cases e2
   exact⟨o,e,ex.2.1⟩
 |_=>exact False.elim ty
def Wn(K:n9)(T:String)(r:V->List V->Hp->VK->Prop)(to:TE):TE:=fun σ H Q=>to σ H fun x H1=>tyV K T x H1/\r x [] H1 Q
def tBM(K:n9)(T:String)(r:V->List V->Hp->VK->Prop)(to:TE)(t:TA):TE:=fun σ H Q=>to σ H fun x H1=>tyV K T x H1/\t σ H1 fun xs H2=>r x xs H2 Q
variable {o e:Expr} {es:List Expr} {to:TE} {t:TA} {name:Str} {apos cpos:Pos} {T id:String} {r:V->List V->Hp->VK->Prop}
theorem Qas(pa:PlainAttrs T)(slot:Slot T name id)(hty:typeOf (.builtin id)=pure (.type "method_descriptor"))(hm:MtR X id r)(ho:PE X o to)
  (Gn:attributeBase o name X.env (eval o X.env)=eval o X.env:=by rfl)(Gk:(apos.endLine==cpos.line)=true:=by rfl):PE X (.Call (.Attribute o name apos) [] [] cpos) (Wn X.K T r to):=by
 intro c7 s σ H Q I h
 refine wpAny_Call_method0_late Gn Gk (P0 (ho c7 s σ H _ I h) fun v s1 ⟨x,H1,I1,r1,ty,q1⟩=> ?_)
 obtain⟨h1,h2⟩:=Rz I1 r1 ty
 exact⟨T,id,pa,slot,hty,h1,h2,Pj rfl (PySem.evalArgs_none (hm c7 s1 σ H1 x [] v [] Q I1 r1 .nil q1))⟩
theorem Qb8(pa:PlainAttrs T)(slot:Slot T name id)(hty:typeOf (.builtin id)=pure (.type "method_descriptor"))(hm:MtR X id r)(ho:PE X o to)(ha:PA X (e::es) t)
  (Gn:attributeBase o name X.env (eval o X.env)=eval o X.env:=by rfl)
  (hfew:((backTo cpos (starEach (e::es) X.env)).all (fun x=> !x.1)&&(backToKw cpos (keywordEach [] X.env)).all (fun x=>x.1.isSome)
   &&decide ((e::es).length+([]:List Keyword).length+(if ([]:List Keyword).isEmpty then 0 else 1)<30))=true:=by rfl)
  (Gk:(apos.endLine==cpos.line)=true:=by rfl)(hs:starEach (e::es) X.env=(false,eval e X.env)::starEach es X.env:=by rfl)(hplain:(backTo cpos (starEach es X.env)).any (·.1)=false:=by rfl):
  PE X (.Call (.Attribute o name apos) (e::es) [] cpos) (tBM X.K T r to t):=by
 intro c7 s σ H Q I h
 refine wpAny_Call_method_late Gn hfew Gk rfl (P0 (ho c7 s σ H _ I h) fun v s1 ⟨x,H1,I1,r1,ty,q1⟩=> ?_)
 obtain⟨h1,h2⟩:=Rz I1 r1 ty
 refine⟨T,id,pa,slot,hty,h1,h2,?_⟩
 have hA:=ha cpos c7 s1 σ H1 _ I1 q1
 rw[hs] at hA⊢
 refine Pj (by show (false||(backTo cpos (starEach es X.env)).any (·.1))=false;rw[hplain]<;>rfl) (Vc ?_)
 exact P0 hA fun us s2 ⟨vs,H2,I2,r2,q2⟩=>hm c7 s2 σ H2 x vs v us Q I2 r1 r2 q2
/- xs.append(e), list.index on a module's tuple .. are MtR facts of 06m -/
end
def MtM(X:Cx)(id:String)(r:V->List V->Hp->VK->Prop):Prop:=
 ∀(c7:List (Addr×Obj)) (s:Shared) (σ:St) (H:Hp) (x:V) (xs:List V) (v:Value) (us:List Value) (Q:VK),Inv X c7 σ H s->RelV x v->y7 xs us->r x xs H Q->
  wpAny (model X.prog X.w) X.A (call (.builtin id) (v::us)) (EP X c7 σ Q) X.xe s
theorem y7.one:∀{x:V} {us:List Value},y7 [x] us->∃u,us=[u]/\RelV x u
 |_,_, .cons r .nil=>⟨_,rfl,r⟩
theorem y7.zero:∀{us:List Value},y7 [] us->us=[]
 |_, .nil=>rfl
theorem y7.dropLast{xs:List V}{us:List Value}(h:y7 xs us):y7 xs.dropLast us.dropLast:=by
 induction h with
 |nil=>exact .nil
 |cons r t ih=>
  cases t with
  |nil=>exact .nil
  |cons q t'=>exact .cons r ih
theorem Nd{α:Type}(l:List α):l.eraseIdx (l.length-1)=l.dropLast:=by
 induction l with
 |nil=>rfl
 |cons a r ih=>
  cases r with
  |nil=>rfl
  |cons b r=>
   have e:(a::b::r).length-1=((b::r).length-1)+1:=by
    have h1:(a::b::r).length=r.length+2:=rfl
    have h2:(b::r).length=r.length+1:=rfl
    omega
   rw[e,List.eraseIdx_cons_succ,ih]
   all_goals rfl
section
variable {X:Cx} {c7:List (Addr×Obj)} {σ:St} {H:Hp} {s:Shared} {l b:Addr} {xs ys zs:List V}
theorem Inw.lset{A0 its':List Value}{n:Nat}{f:Array Value->Array Value}{t':Nat}(I:Inw X c7 σ H s)(hH:H l=some (.lst xs))
  (e:s.heap.get? l=some {cls:= .type "list",data:= .seq A0.toArray n})(hf:f A0.toArray=its'.toArray)(hv:y7 ys its')(hz:ys.length<=sizeLine):
  Inw X c7 σ (upd H l (.lst ys)) {s with heap:=s.heap.update l (Obj.mapSeq f),toks:=t'}:=by
 have q:=PySem.IsL.update e f
 rw[hf] at q
 refine I.write (x:=l) (e:=l) (by rw[hH];exact trivial) (.inl rfl) (fun b' u hb hu=>(Heap.get?_update_other s.heap (Obj.mapSeq f) (Y4 hb)).trans hu) ⟨_,q⟩ ?_
 exact⟨hz,its',_,hv,q⟩
theorem Inw.lnew{A0:List Value}{t':Nat}(I:Inw X c7 σ H s)(hv:y7 ys A0)(hz:ys.length<=sizeLine):
  Inw X c7 σ (upd H s.heap.objs.size (.lst ys)) {s with heap:=s.heap.push {cls:= .type "list",data:= .seq A0.toArray},toks:=t'}:=
 I.laid (fun _ _ q=>Q2 _ q) (l9 _) ⟨hz,A0,0,hv,W8 _ rfl⟩
theorem Inw.fresh(I:Inw X c7 σ H s):H s.heap.objs.size=none:=I.hok.fresh (l9 _)
theorem Inw.lstM(I:Inw X c7 σ H s)(hH:H l=some (.lst xs)):xs.length<=sizeLine/\∃(A0:List Value) (n:Nat),y7 xs A0/\xs.length=A0.length/\s.heap.get? l=some {cls:= .type "list",data:= .seq A0.toArray n}:=by
 obtain⟨z,A0,n,r,e⟩:=I.hok l _ hH
 exact⟨z,A0,n,r,r.length,e⟩
theorem TR{n:Nat}(h:n<=sizeLine):Builtin.List.listTooLong n=false:=by
 unfold Builtin.List.listTooLong
 exact BG (by omega)
end
section
variable {X:Cx}
def DZ:V->List V->Hp->VK->Prop:=fun x vs H Q=>∃l xs y,x= .ref l/\vs=[y]/\H l=some (.lst xs)/\xs.length<sizeLine/\Q .non (upd H l (.lst (xs++[y])))
theorem y8:MtM X "list.append" DZ:=by
 intro c7 s σ H x vs v us Q I rx rv h
 obtain⟨l,xs,y,rfl,rfl,hH,hz,q⟩:=h
 cases rx
 obtain⟨u,rfl,ru⟩:=rv.one
 obtain⟨z,A0,n,r,hl,e⟩:=I.lstM hH
 refine call_meets F.slot_list_append ⟨_,e,rfl⟩ F.entry_list_append (F.args_list_append_2 _ _) (PySem.list_append l A0.toArray n u (by rw[D8];omega)) ⟨e,?_⟩
 refine⟨.non,_,I.lset (its':=A0++[u]) hH e (by simp) (r.append (.cons ru .nil)) ?_,rfl,q⟩
 rw[l0,Aa]
 omega
def Ak:V->List V->Hp->VK->Prop:=fun x vs H Q=>∃l b xs zs,x= .ref l/\vs=[.ref b]/\H l=some (.lst xs)/\H b=some (.lst zs)/\xs.length+zs.length<=sizeLine/\Q .non (upd H l (.lst (xs++zs)))
theorem R9:MtM X "list.extend" Ak:=by
 intro c7 s σ H x vs v us Q I rx rv h
 obtain⟨l,b,xs,zs,rfl,rfl,hH,hB,hz,q⟩:=h
 cases rx
 obtain⟨u,rfl,ru⟩:=rv.one
 cases ru
 obtain⟨z,A0,n,r,hl,e⟩:=I.lstM hH
 obtain⟨z2,its2,n2,r2,hl2,e2⟩:=I.lstM hB
 have hsz:A0.toArray.size+its2.toArray.size<=sizeLine:=by rw[D8,D8];omega
 have hlong:¬(!A0.toArray.isEmpty&&Builtin.List.listTooLong (A0.toArray.size+its2.toArray.size))=true:=by
  rw[TR hsz,Bool.and_false]
  exact Ac
 refine call_meets F.slot_list_extend ⟨_,e,rfl⟩ F.entry_list_extend (F.args_list_extend_2 _ _)
  (AutoSeq1.list_extend_list_list_0 l A0.toArray n b its2.toArray n2 hlong (by rw[D8];omega) (by omega)) ⟨e,e2,?_⟩
 refine⟨.non,_,I.lset (its':=A0++its2) hH e (by simp) (r.append r2) ?_,rfl,q⟩
 rw[l0]
 omega
def Qak:V->List V->Hp->VK->Prop:=fun x vs H Q=>∃l xs y,x= .ref l/\vs=[]/\H l=some (.lst xs)/\xs[xs.length-1]? =some y/\Q y (upd H l (.lst xs.dropLast))
theorem QaZ:MtM X "list.pop" Qak:=by
 intro c7 s σ H x vs v us Q I rx rv h
 obtain⟨l,xs,y,rfl,rfl,hH,hy,q⟩:=h
 cases rx
 have AS:=rv.zero
 subst AS
 obtain⟨z,A0,n,r,hl,e⟩:=I.lstM hH
 obtain⟨u,hu,ru⟩:=r.get hy
 have hy':A0.toArray[A0.toArray.size-1]? =some u:=by
  show A0.toArray[A0.length-1]? =some u
  rw[<-Iq,<-hl]
  exact hu
 refine call_meets F.slot_list_pop ⟨_,e,rfl⟩ F.entry_list_pop (F.args_list_pop_1 _) (MeetsSeq.list_pop_last l A0.toArray n u hy' (by rw[D8];omega)) ⟨e,?_⟩
 refine⟨y,_,I.lset (its':=A0.dropLast) hH e ?_ r.dropLast ?_,ru,q⟩
 ·show A0.toArray.eraseIdxIfInBounds (A0.toArray.size-1)=A0.dropLast.toArray
  rw[D8,List.eraseIdxIfInBounds_toArray,Nd]
 ·rw[List.length_dropLast]
  omega
def Tc:R2:=fun x y H Q=>∃l b xs zs,x= .ref l/\y= .ref b/\H l=some (.lst xs)/\H b=some (.lst zs)/\xs.length+zs.length<=sizeLine/\∀p,H p=none->Q (.ref p) (upd H p (.lst (xs++zs)))
theorem Y7:DE X (binaryOp .Add) Tc:=by
 intro c7 s σ H x y v u Q I rx ry h
 obtain⟨l,b,xs,zs,rfl,rfl,hH,hB,hz,q⟩:=h
 cases rx
 cases ry
 obtain⟨z,A0,n,r,hl,e⟩:=I.lstM hH
 obtain⟨z2,its2,n2,r2,hl2,e2⟩:=I.lstM hB
 refine PySem.P.add_list e e2 ?_ (by rw[D8,D8];omega)
 have ea:A0.toArray++its2.toArray=(A0++its2).toArray:=by simp
 rw[ea]
 exact⟨.ref _,_,I.lnew (t':=s.toks) (r.append r2) (by rw[l0];omega),rfl,q _ I.fresh⟩
end
section
variable {prog:Program} {w:World} {A:Around} {E:Value->Shared->Prop} {s:Shared}
set_option maxRecDepth 100000 in
end
section
variable {X:Cx}
end
end L2
namespace Att
open PySem PySem.W PySem.Calls PyProof.Rows
theorem Fg{P:Params}{h:Heap}:∀(ns:List Int) (vs:List Value),WellAll P h vs (ns.map WData.int)->IntsAre vs ns:=by
 intro ns
 induction ns with
 |nil=>
  intro vs w
  rw[List.map_nil] at w
  cases w
  exact .nil
 |cons n ns ih=>
  intro vs w
  rw[List.map_cons] at w
  cases w with
  |cons a b=>
   cases a
   exact .cons _ _ (ih _ b)
theorem PX{l:OpenLaw}{n:Nat}(hn:l.most=some n){P:Params}{h:Heap}{args:List WData}{vals:List Value}
  (Hx:l.row.toRowW.claim.pre args=true)(LY:WellAll P h vals args):
  ∃a vs ns,vals=[Value.ref a]/\args=[WData.list (ns.map WData.int)]/\h.get? a=some {cls:= .type "list",data:= .seq vs.toArray}/\IntsAre vs ns/\ns.length<=n:=by
 have hsh:WShape.hasAll [] args [.list .int]=true:=(pre_splitW Hx).1
 have hc:l.pre.holds [] {args:=args}=true:=(pre_splitW Hx).2
 obtain⟨d,r,rfl,h1,h2⟩:=hasAllW_cons hsh
 obtain rfl:=hasAllW_nil h2
 obtain⟨xs,rfl,h3⟩:=hasW_list h1
 obtain⟨ns,rfl⟩:=items_int h3
 have E2:ns.length<=n:=by
  unfold OpenLaw.pre at hc
  have h4:(WTm.not (.lt (.lit (.int (n:Int))) (.len (.arg 0)))).holds [] {args:=[.list (ns.map .int)]}=true:=by
   have h4:=(holds_andW hc).1
   rw[hn] at h4
   exact h4
  have h5:=condW_of h4 (w_not (w_lt w_lit (w_len_list (w_arg rfl))))
  rw[i5] at h5
  refine Nat.le_of_not_lt fun q=> ?_
  have q':(n:Int)<((ns.length:Nat):Int):=by omega
  first
   |(rw[R8 q'] at h5;exact absurd h5 (by decide))
   |(simp at h5;omega)
 cases LY with
 |cons w1 w2=>
  cases w2
  cases w1 with
  |list ho hall=>exact⟨_,_,ns,rfl,rfl,ho,Fg ns _ hall,E2⟩
theorem Qi(l:OpenLaw)(args:List WData):l.row.toRowW.claim.post args (.bool true) args=true:=
 postW_of (r:=l.row.toRowW) (X:=(true==true))
  (show WShape.has [] (.bool true) .bool=true by first|rfl|decide|simp [WShape.has,WShape.arms,WShape.armsAll])
  (show (WTm.eq .res (.lit (.bool true))).value [] {args:=args,res:=some (.bool true),after:=args}=some (.bool (true==true)) from w_eq_bool (w_res rfl) w_lit) rfl
theorem LH{l:OpenLaw}{n:Nat}{q:Program}{loose:List Str}{XP:(Str->Option Value)->Heap->Prop}{YP:World->Heap->Prop}{d:DefRec}
  (hn:l.most=some n)(hdf:d.params.defaults=[])
  (call:∀(w:World) (s₀ s₁:Shared) (mg mb:Str->Option Value) (fa:Addr) (o:Obj) (pm cd doc:Value) (a:Addr) (vs:List Value) (ns:List Int),
   Ground q loose [] XP w s₀ mg mb s₁.heap->YP w s₁.heap->
   s₁.heap.get? fa=some o->o.data= .func (docDef d.name d.params d.body d.scope pm cd doc)->s₁.heap.CodeRec cd d.name->mg d.name=some (.ref fa)->
   s₁.heap.get? a=some {cls:= .type "list",data:= .seq vs.toArray}->IntsAre vs ns->ns.length<=n->s₁.gens= #[]->
   codeAny (model l.prog w) callerA (.call (.ref fa) ⟨[.ref a],[]⟩) (fun r s'=>r= .ok (.ret (.bool true))/\OldK s₁.heap s'.heap/\s'.os=s₁.os/\AllBare s'.gens) s₁):
  WalkO q loose XP YP l.row.toRowW d [] (fun f vs=>PySem.call f vs):=by
 intro w s₀ s₁ mg mb G Y fa o pm cd doc dV kV ho hd Lo hD hmg hg args vals as Hx hlay hrd LY hlo
 obtain rfl:dV= .none:=Dflts.none hD hdf
 obtain rfl:kV= .none:=Dflts.noKw hD
 obtain⟨a,vs,ns,rfl,rfl,hobj,hints,E2⟩:=PX hn Hx LY
 refine enter_call (LK (call w s₀ s₁ mg mb fa o pm cd doc a vs ns G Y ho (fd_plain hd) Lo hmg hobj hints E2 hg) fun r s' hq=> ?_)
 obtain⟨rfl,h2,h3,h4⟩:=hq
 exact⟨.inl ⟨.bool true, .bool true,[],rfl,fun _=>rfl, .bool true,Qi l _,fun _=>⟨List.Pairwise.nil,fun _ hm=>(nomatch hm)⟩⟩,h2,h3,h4⟩
section
variable {prog:Program} {w:World} {A:Around} {E:Value->Shared->Prop} {s:Shared} {K:Frag}
def Qdg(h:Heap)(L d:Addr):List (Addr×Obj):=(List.range h.objs.size).filterMap fun a=>if a=L\/a=d then none else (h.get? a).map fun o=>(a,o)
end
end Att
namespace L2
open PySem PySem.Spec PyProof.Rows
theorem HD:∀{vs:List Value} {ns:List Int},IntsAre vs ns->y7 (ns.map V.int) vs
 |_,_, .nil=> .nil
 |_,_, .cons n t h=> .cons ⟨t,rfl⟩ (HD h)
def Qbv(H:Hp):Prop:=∀b,H b=none\/∃o xs,H b=some (.frz o (.lst xs))
theorem Uh{P:Program}{w:World}{K:n9}{mg mb:Str->Option Value}{CX:Mc}{k:Nat}{fa a:Addr}{fd:FuncData}{x:Str}{sp:Sp}{s₁:Shared}{vs:List Value}{ns:List Int}
  (KX:K.In s₁.heap)(hns:s₁.heap.Ns mainGlobals mg)(hb:s₁.heap.Ns builtinsNs mb)(hbb:∀x:Str,x≠"__name__"->mb x=bootBuiltins x)(hlim:s₁.heap.NoLimit)(hg:s₁.gens= #[])
  (ha:s₁.heap.get? a=some {cls:= .type "list",data:= .seq vs.toArray})(hi:IntsAre vs ns)(hl:ns.length<=sizeLine)(hr:Room k callerA)
  (F:∀base:Heap,K.In base->base.Ns mainGlobals mg->FnOkL P w K mg base CX k fa fd [x] sp)(hbind:∀(s:Shared) (u:Value),BindsTo s fd ⟨[u],[]⟩ [(x,u)])
  (Qs:∀H:Hp,Qbv H->o6 K H a (ns.map V.int)->sp [.ref a] H (fun v _=>v= .bl true) fun _ _ _=>False)
  (hCX:∀H e s',CX [] H s₁ (fun _ _ _=>False) e s'->False):
  codeAny (model P w) callerA (.call (.ref fa) ⟨[.ref a],[]⟩) (fun r s'=>r= .ok (.ret (.bool true))/\OldK s₁.heap s'.heap/\s'.os=s₁.os/\AllBare s'.gens) s₁:=by
 have rv:=HD hi
 have lenV:=hi.length
 -- from an abstract heap in which nothing but the script may be tracked
 have core:∀H:Hp,Qbv H->o6 K H a (ns.map V.int)->DF P w H s₁.heap->(∀b,H b≠none->b=a)->(H a≠none->K.lookup a=none)->
   codeAny (model P w) callerA (.call (.ref fa) ⟨[.ref a],[]⟩) (fun r s'=>r= .ok (.ret (.bool true))/\OldK s₁.heap s'.heap/\s'.os=s₁.os/\AllBare s'.gens) s₁:=by
  intro H hO hS hok hA hK
  have base_of:∀{b:Addr} {o:Obj},s₁.heap.get? b=some o->H b=none->(Jr s₁.heap H).get? b=some o:=fun e n=>UA e n
  have noA:∀{b:Addr} {o:Obj} {es:Array DictEntry} {ep:Nat},s₁.heap.get? b=some o->o.data= .dict es ep->H b=none:=fun{b o es ep} e d=>by
   cases q:H b with
   |none=>rfl
   |some u=>
    have e':b=a:=hA b (by rw[q];simp)
    subst e'
    rw[ha] at e;cases e
    have d':Data.seq vs.toArray _=Data.dict es ep:=d
    cases d'
  have nsK:∀{b:Addr} {m:Str->Option Value},s₁.heap.Ns b m->(Jr s₁.heap H).Ns b m:=fun{b m} ⟨o,es,ep,e,d,r⟩=>⟨o,es,ep,base_of e (noA e d),d,r⟩
  have hKb:K.In (Jr s₁.heap H):=fun b o e=>base_of (KX b o e) (by
   cases q:H b with
   |none=>rfl
   |some u=>
    have e':b=a:=hA b (by rw[q];simp)
    subst e'
    rw[hK (by rw[q];simp)] at e;cases e)
  have hM:Mod K mg (Jr s₁.heap H):=⟨hKb,nsK hns,⟨mb,nsK hb,hbb⟩,let ⟨mc,h1,h2⟩:=hlim;⟨mc,nsK h1,h2⟩⟩
  have e0:Env0w P w K mg (Jr s₁.heap H) callerA [] s₁ H:=⟨rfl,hM,fun b o e=>WW e,Iu (Qu _ _),trivial,fun b hb=>absurd (show b∈([]:List Addr) from hb) (by simp),hok, .of_eq hg⟩
  refine LK ((F _ hKb (nsK hns)).run callerA [] s₁ H ⟨[.ref a],[]⟩ [.ref a] [.ref a] _ _ hr e0 (hbind s₁ (.ref a)) (.cons rfl .nil) (Qs H hO hS)) fun r s' h=> ?_
  cases r with
  |error e=>exact(hCX H e s' h).elim
  |ok fl=>
   cases fl with
   |next=>exact False.elim h
   |brk=>exact False.elim h
   |cont=>exact False.elim h
   |ret u=>
    obtain⟨v,H',os,bare,un,hok',r',q⟩:=h
    have q':v= .bl true:=q
    subst q'
    obtain rfl:u=Value.bool true:=r'
    refine⟨rfl,OldK.of_keep fun b o e=> ?_,os,bare⟩
    cases q:H b with
    |none=>exact un.keep b o e q (by intro z;exact absurd (show b∈([]:List Addr) from z) (by simp)) (by simp)
    |some u=>
     rcases hO b with z|⟨ob,xs,z⟩
     ·rw[q] at z;cases z
     ·have z2:=un.frzs b ob _ z
      obtain⟨e1,_⟩:=hok b _ z
      obtain⟨e2,_⟩:=hok' b _ z2
      rw[e] at e1;cases e1
      exact e2
 cases hk:K.lookup a with
 |some o=>
  -- the script is one of the module's own objects
  have e:=KX a o hk
  rw[ha] at e
  cases e
  refine core (fun _=>none) (fun _=> .inl rfl) (.inr ⟨_,vs.toArray,_,hk,rfl,rfl,rfl,by rw[D8,lenV];exact hl,by simpa using rv⟩) (fun b u z=>by have z':(none:Option HO)=some u:=z;cases z') (fun b z=>absurd rfl z) fun z=>absurd rfl z
 |none=>
  refine core (fun b=>if b=a then some (.frz {cls:= .type "list",data:= .seq vs.toArray} (.lst (ns.map V.int))) else none) (fun b=> ?_) (.inl (.inr ⟨{cls:= .type "list",data:= .seq vs.toArray},if_pos rfl⟩)) (fun b u z=> ?_) (fun b z=> ?_) fun _=>hk
  ·by_cases hb:b=a
   ·exact .inr ⟨_,_,if_pos hb⟩
   ·exact .inl (if_neg hb)
  ·by_cases hb:b=a
   ·have z':=(if_pos hb).symm.trans z
    cases z'
    subst hb
    exact⟨ha,by rw[i5];exact hl,vs,_,rv,ha⟩
   ·have z':=(if_neg hb).symm.trans z
    cases z'
  ·by_cases hb:b=a
   ·exact hb
   ·exact absurd (if_neg hb) z
abbrev KOf{K:n9}{h:Heap}(_:K.In h):n9:=K
theorem NM{l:PySem.W.OpenLaw}{n k:Nat}{q:Program}{loose:List Str}{XP:(Str->Option Value)->Heap->Prop}{YP:World->Heap->Prop}{d:DefRec}{K:Params->n9}{CX:World->Mc}{sp:World->Sp}{x:Str}
  (hn:l.most=some n)(hn2:n<=sizeLine)(hdf:d.params.defaults=[])(hr:Room k callerA)
  (hY:∀(w:World) (h:Heap),YP w h->(K w.params).In h)
  (F:∀(w:World) (mg:Str->Option Value) (fa:Addr) (h:Heap),(K w.params).In h->h.Ns mainGlobals mg->mg d.name=some (.ref fa)->
   ∃fd:FuncData,(∀(s:Shared) (u:Value),BindsTo s fd ⟨[u],[]⟩ [(x,u)])/\
    ∀base:Heap,(K w.params).In base->base.Ns mainGlobals mg->FnOkL l.prog w (K w.params) mg base (CX w) k fa fd [x] (sp w))
  (Qs:∀(w:World) (H:Hp) (a:Addr) (ns:List Int),ns.length<=n->Qbv H->o6 (K w.params) H a (ns.map V.int)->sp w [.ref a] H (fun v _=>v= .bl true) fun _ _ _=>False)
  (hCX:∀(w:World) (H:Hp) (s:Shared) (e:Value) (s':Shared),CX w [] H s (fun _ _ _=>False) e s'->False):
  PySem.W.WalkO q loose XP YP l.row.toRowW d [] (fun f vs=>PySem.call f vs):=by
 refine Att.LH hn hdf fun w s₀ s₁ mg mb fa o pm cd doc a vs ns G Y ho hd Lo hmg hobj hints E2 hg=> ?_
 have KX:=hY w _ Y
 obtain⟨fd,hb,hF⟩:=F w mg fa _ KX G.T.g hmg
 exact Uh KX G.T.g G.T.b G.T.builtins G.T.nolimit hg hobj hints (Ad E2 hn2) hr hF hb (fun H hO hS=>Qs w H a ns E2 hO hS) fun H e s'=>hCX w H s₁ e s'
end L2
/- THE LAST THEOREM (shape; LID, My.* are yours):
   My.Adr: a structure of the addresses that your layer names (classes, functions); My.Txt K t: a structure (Prop) of the equations over K;
   My.txt_mk : {K} {implicit addresses ..} (e1 : nsIn K mainGlobals "law" = some (some (.ref f))) (e2 : K.lookup f = some ⟨oc, od, .func (fnOf "law" "law" params body scope dV kV doc pm an H9 ct), sl⟩) (e3 : codeIn K H9 "law" = true) .. : ∃ t, My.Txt K t

set_option maxRecDepth 100000 in
set_option maxHeartbeats 0 in
theorem PySem.Challenge.cw_LID_holds : PySem.Challenge.rw_LID.Holds := by
  w_on; o_law; k_head; (case hw => w_witness2)
  k_fill
  refine L2.NM (l := PySem.Challenge.rw_LID) (n := 63) (k := 40) (x := "script") (CX := fun w => ..) (sp := fun _ => My.sp_law) rfl (by decide) rfl ⟨rfl, by decide, by decide⟩ (fun w h Y => PySem.W.kIn_of Y) ?F ?S ?C
  case F =>
    intro w mg fa h KX G hmg
    have T : ∃ t, My.Txt (L2.KOf KX) t := by
      dsimp only [L2.KOf]                          -- K must stand as «<heap const> w.params» for k_is
      refine' My.txt_mk ?e1 ?e2 ?e3 ..
      (case e1 => PySem.W.k_is)                    -- in the order: a name -> A0 address -> A0 object -> A0 parts
      (case e2 => PySem.W.k_is)
      ..
    obtain ⟨t, T⟩ := T
    have e0 := hmg.symm.trans (w9 KX G T.law)
    cases e0                                       -- fa is the law's own address
    exact ⟨_, fun s u => .of_eq rfl, fun base kb nb => My.law_fn T kb nb⟩     -- if «.of_eq rfl» comes too early: refine' ⟨_, ?b, fun base kb nb => My.law_fn T kb nb⟩; exact fun s u => .of_eq rfl
  case S => exact fun w H a ns hl hO hS => ..
  case C => exact ..
(the tactic k_is has no namespace: write k_is) -/
namespace L2
open PySem PySem.Spec PyProof.Rows
def T3(s:Stmt)(j:Nat):Stmt:=match s with
 | .ClassDef _ _ _ body _ _ _ _ _ _ _=>body.getD j (.Pass ⟨0,0,0,0⟩)
 |_=> .Pass ⟨0,0,0,0⟩
def BE(s:Stmt):Arguments:=match s with
 | .FunctionDef _ a _ _ _ _ _ _ _ _=>a
 |_=>{posonlyargs:=[],args:=[],vararg:=none,kwonlyargs:=[],kw_defaults:=[],kwarg:=none,defaults:=[]}
def Ap(s:Stmt):List Stmt:=match s with
 | .FunctionDef _ _ b _ _ _ _ _ _ _=>b
 |_=>[]
def i7(s:Stmt):Scope:=match s with
 | .FunctionDef _ _ _ _ _ _ sc _ _ _=>sc
 |_=>{kind:= .function,names:=[],isGenerator:=false,isCoroutine:=false}
abbrev x8:Mc:=fun _ _ _ _ _ _=>False
abbrev E0:XK:=fun _ _ _=>False
theorem j3{X:Cx}:BM x8 X E0:=fun _ _ _ _ _ _ _ h=>h.elim
structure Fun(K:n9)(x qual:Str)(st:Stmt)(f:Addr)(fd:FuncData):Prop where
 ex:∃(oc:Value) (od:Option Addr) (kV doc pm:Value) (an:Option Addr) (H9 ct:Value) (osl:Array (Option Value)),
  fd=PySem.W.fnOf x qual (BE st) (Ap st) (i7 st) .none kV doc pm an H9 ct/\K.lookup f=some ⟨oc,od, .func fd,osl⟩/\PySem.W.codeIn K H9 qual=true
 kp:PySem.W.keepIn K (.ref f)=true
section
variable {P:Program} {w:World} {K:n9} {mg:Str->Option Value} {base:Heap}
theorem Fun.ok{x qual:Str}{st:Stmt}{f:Addr}{fd:FuncData}{N ps:List Str}{k:Nat}{sp:Sp}(F:Fun K x qual st f fd)(S:FnScope N ps (i7 st))(len:∀vs H Q E,sp vs H Q E->vs.length=ps.length)
  (Gm:∀(H9:Value) (A:Around) (outer:List Env) (s:Shared) (H:Hp) (vs:List V) (Q:VK) (E:XK),Room k (A.deeper (envOfC qual (i7 st) s.heap.objs.size f H9))->sp vs H Q E->
   ∃t,Mb (Hz x8 P w K mg base N qual (i7 st) f H9 A outer s H E).nox (Ap st) t/\t {nx:=fun _ H'=>Q .non H',rt:=Q} (start N vs) H):FnOk P w K mg base x8 (k+1) f fd ps sp:=by
 obtain⟨oc,od,kV,doc,pm,an,H9,ct,osl,rfl,lk,Lo⟩:=F.ex
 refine Qc2 lk Lo S len fun A outer s H vs Q E hr Qs=> ?_
 obtain⟨t,h,q⟩:=Gm H9 A outer s H vs Q E hr Qs
 exact⟨t,h.nox,q⟩
theorem Fun.okL{x qual:Str}{st:Stmt}{f:Addr}{fd:FuncData}{N ps:List Str}{k:Nat}{sp:Sp}(F:Fun K x qual st f fd)(S:FnScope N ps (i7 st))(len:∀vs H Q E,sp vs H Q E->vs.length=ps.length)
  (Gm:∀(H9:Value) (A:Around) (outer:List Env) (s:Shared) (H:Hp) (vs:List V) (Q:VK) (E:XK),Room k (A.deeper (envOfC qual (i7 st) s.heap.objs.size f H9))->sp vs H Q E->
   ∃t,QU (Hz x8 P w K mg base N qual (i7 st) f H9 A outer s H E).nox (Ap st) t/\t {nx:=fun _ H'=>Q .non H',rt:=Q} (start N vs) H):FnOkL P w K mg base x8 (k+1) f fd ps sp:=by
 obtain⟨oc,od,kV,doc,pm,an,H9,ct,osl,rfl,lk,Lo⟩:=F.ex
 refine Qbn lk Lo S len fun A outer s H vs Q E hr Qs=> ?_
 obtain⟨t,h,q⟩:=Gm H9 A outer s H vs Q E hr Qs
 exact⟨t,h.nox,q⟩
theorem Fun.binds{x qual:Str}{st:Stmt}{f:Addr}{fd:FuncData}{ps:List Str}(F:Fun K x qual st f fd)
  (h:∀(kV doc pm:Value) (an:Option Addr) (H9 ct:Value) (us:List Value),us.length=ps.length->bindArgs (PySem.W.fnOf x qual (BE st) (Ap st) (i7 st) .none kV doc pm an H9 ct) ⟨us,[]⟩=pure (ps.zip us)):Binds K fd ps []:=by
 obtain⟨oc,od,kV,doc,pm,an,H9,ct,osl,rfl,lk,Lo⟩:=F.ex
 exact .all (h kV doc pm an H9 ct)
theorem UH{x qual:Str}{st:Stmt}{f:Addr}{oc:Value}{od an:Option Addr}{osl:Array (Option Value)}{kV doc pm H9 ct:Value}(l:K.lookup f=some ⟨oc,od, .func (PySem.W.fnOf x qual (BE st) (Ap st) (i7 st) .none kV doc pm an H9 ct),osl⟩)
  (c:PySem.W.codeIn K H9 qual=true)(k:PySem.W.keepIn K (.ref f)=true):Fun K x qual st f (PySem.W.fnOf x qual (BE st) (Ap st) (i7 st) .none kV doc pm an H9 ct):=⟨⟨oc,od,kV,doc,pm,an,H9,ct,osl,rfl,l,c⟩,k⟩
end
theorem T4{A:Around}{k:Nat}(hr:Room k A):A.units+1<cLine:=LI (Nat.add_le_add_left (by decide:1<=64) _) hr.units
theorem P6{n:Nat}(h:n<=1000):n<sizeLine:=LI h (by decide)
section
variable {X:Cx}
theorem pv(i:Nat){x:Str}{pos:Pos}(hN:X.N[i]? =some x:=by rfl)(hv:Vis X.env.scope x:=by first|exact Or.inl rfl|exact Or.inr (Or.inl rfl)|exact Or.inr (Or.inr rfl))(hd:(x==("__debug__":Str))=false:=by decide)
  (Lo:(x==("__classdict__":Str))=false:=by decide):PE X (.Name x pos) (IG i):=To hN hv hd Lo
end
theorem Bb{A B:Prop}(h:B):if false=true then A else B:=by
 rw[if_neg Ac]
 exact h
theorem MV{A B:Prop}(h:A):if true=true then A else B:=by
 rw[if_pos rfl]
 exact h
theorem O3{c A B:Prop}[Decidable c](h1:c->A)(h2:¬c->B):if c then A else B:=by
 by_cases h:c
 ·rw[if_pos h]
  exact h1 h
 ·rw[if_neg h]
  exact h2 h
theorem YC{c A B:Prop}[Decidable c](hc:c)(h:B):if (!decide c)=true then A else B:=by
 rw[R8 hc]
 exact Bb h
def j9(H H':Hp):Prop:=∀b o,H b=some o->H' b=some o
theorem j9.refl(H:Hp):j9 H H:=fun _ _ h=>h
theorem j9.trans{H H1 H2:Hp}(a:j9 H H1)(b:j9 H1 H2):j9 H H2:=fun c o h=>b c o (a c o h)
theorem j9.free{H H':Hp}(e:j9 H H'){l:Addr}(h:H' l=Option.none):H l=Option.none:=by
 cases q:H l with
 |none=>rfl
 |some o=>
  rw[e l o q] at h
  cases h
end L2
set_option maxHeartbeats 4000000
namespace L2
open PySem
def X9(env:Env):List (Str×NameKind)->List (Str×Addr)->List (Str×Addr)
 |[],cs=>cs
 |(n,k)::r,cs=>if (k== .free)=true then X9 env r ((n,(env.cells.lookup n).getD 0)::cs) else X9 env r cs
theorem HA{sc:Scope}{env:Env}(h:∀n,(n,NameKind.free)∈sc.names->∃c,env.cells.lookup n=some c):closureFor sc env=pure (X9 env sc.names []):=by
 simp only[closureFor]
 generalize sc.names=l at h
 generalize ([]:List (Str×Addr))=cs
 induction l generalizing cs with
 |nil=>rfl
 |cons x r ih=>
  obtain⟨n,k⟩:=x
  have hr:∀n,(n,NameKind.free)∈r->∃c,env.cells.lookup n=some c:=fun n hn=>h n (D5 _ hn)
  rw[List.forIn_cons,X9]
  by_cases hk:(k==NameKind.free)=true
  ·have hk':k= .free:=by cases k<;>first|rfl|exact absurd hk (by decide)
   subst hk'
   obtain⟨c,hc⟩:=h n C0
   have e:cellOf env n=pure c:=by unfold cellOf;rw[hc]
   simp only[e]
   rw[if_pos hk,if_pos hk,hc]
   exact ih hr _
  ·rw[if_neg hk,if_neg hk]
   exact ih hr _
theorem Be{env:Env}{x:Str}{c:Addr}:∀(l:List (Str×NameKind)) (cs:List (Str×Addr)),(∀n,(n,NameKind.free)∈l->∃c,env.cells.lookup n=some c)->(∀y d,cs.lookup y=some d->env.cells.lookup y=some d)->
  (X9 env l cs).lookup x=some c->env.cells.lookup x=some c
 |[],cs,_,hc,e=>hc x c e
 |(n,k)::r,cs,h,hc,e=>by
  have hr:∀n,(n,NameKind.free)∈r->∃c,env.cells.lookup n=some c:=fun n hn=>h n (D5 _ hn)
  rw[X9] at e
  split at e
  ·rename_i hk
   have hk':k= .free:=by cases k<;>first|rfl|exact absurd hk (by decide)
   subst hk'
   obtain⟨c',hc'⟩:=h n C0
   refine Be r _ hr (fun y d hy=> ?_) e
   rw[AV] at hy
   split at hy
   ·rename_i hyn
    have:y=n:=eq_of_beq hyn
    subst this
    rw[hc'] at hy
    rw[hc'];exact hy
   ·exact hc y d hy
  ·exact Be r cs hr hc e
theorem BF{env:Env}{x:Str}:∀(l:List (Str×NameKind)) (cs:List (Str×Addr)),((x,NameKind.free)∈l\/∃d,cs.lookup x=some d)->∃d,(X9 env l cs).lookup x=some d
 |[],cs,h=>by
  rcases h with h|h
  ·cases h
  ·exact h
 |(n,k)::r,cs,h=>by
  rw[X9]
  split
  ·rename_i hk
   refine BF r _ ?_
   by_cases hx:x=n
   ·subst hx;exact .inr ⟨_,by rw[AV];simp;rfl⟩
   ·rcases h with h|⟨d,h⟩
    ·rcases E8.mp h with e|e
     ·exact absurd (congrArg Prod.fst e) hx
     ·exact .inl e
    ·refine .inr ⟨d,?_⟩
     rw[AV]
     have:(x==n)=false:=by simpa using hx
     rw[this];exact h
  ·rename_i hk
   refine BF r _ ?_
   rcases h with h|h
   ·rcases E8.mp h with e|e
    ·have:k= .free:=(congrArg Prod.snd e).symm
     subst this
     exact absurd rfl hk
    ·exact .inl e
   ·exact .inr h
theorem Dm{env:Env}{x:Str}{k':NameKind}:∀{names:List (Str×NameKind)},(names.map fun(n,k)=>if (k==NameKind.free&&env.scope.kind== .function&&env.kindOf n==some .cell) then (n,NameKind.cell) else (n,k)).lookup x=some k'->
  ∃k,names.lookup x=some k/\(k'=k\/(k= .free/\k'= .cell))
 |[],h=>by simp at h
 |(n,k)::r,h=>by
  have ih:= @Dm env x k' r
  have h':List.lookup x ((if (k==NameKind.free&&env.scope.kind== .function&&env.kindOf n==some .cell)=true then (n,NameKind.cell) else (n,k))::(r.map fun(n,k)=>if (k==NameKind.free&&env.scope.kind== .function&&env.kindOf n==some .cell) then (n,NameKind.cell) else (n,k)))=some k':=h
  cases hx:x==n with
  |true=>
   refine⟨k,by rw[AV,hx],?_⟩
   by_cases hc:(k==NameKind.free&&env.scope.kind== .function&&env.kindOf n==some .cell)=true
   ·rw[if_pos hc,AV,hx] at h'
    have hk:(k==NameKind.free)=true:=by
     rw[Q0,Q0] at hc
     exact hc.1.1
    exact .inr ⟨eq_of_beq hk,(Ab h').symm⟩
   ·rw[if_neg hc,AV,hx] at h'
    exact .inl (Ab h').symm
  |false=>
   rw[AV,hx]
   by_cases hc:(k==NameKind.free&&env.scope.kind== .function&&env.kindOf n==some .cell)=true
   ·rw[if_pos hc,AV,hx] at h';exact ih h'
   ·rw[if_neg hc,AV,hx] at h';exact ih h'
theorem DY{env:Env}{x:Str}(hf:env.scope.kind= .function)(hx:env.kindOf x=some .cell):∀{names:List (Str×NameKind)},names.lookup x=some .free->
  (names.map fun(n,k)=>if (k==NameKind.free&&env.scope.kind== .function&&env.kindOf n==some .cell) then (n,NameKind.cell) else (n,k)).lookup x=some .cell
 |[],h=>by simp at h
 |(n,k)::r,h=>by
  have ih:= @DY env x hf hx r
  show List.lookup x ((if (k==NameKind.free&&env.scope.kind== .function&&env.kindOf n==some .cell)=true then (n,NameKind.cell) else (n,k))::(r.map fun(n,k)=>if (k==NameKind.free&&env.scope.kind== .function&&env.kindOf n==some .cell) then (n,NameKind.cell) else (n,k)))=some .cell
  cases OS:x==n with
  |true=>
   rw[AV,OS] at h
   have hk:k= .free:=Ab h
   have hn:n=x:=(eq_of_beq OS).symm
   subst hk hn
   rw[if_pos (by rw[hf,hx];decide),AV,OS]
  |false=>
   rw[AV,OS] at h
   by_cases hc:(k==NameKind.free&&env.scope.kind== .function&&env.kindOf n==some .cell)=true
   ·rw[if_pos hc,AV,OS];exact ih h
   ·rw[if_neg hc,AV,OS];exact ih h
def JE(NX:List Str)(sX sc:Scope)(N:List Str)(pick:List (Option Nat)):Bool:=
 decide (sc.kind= .function)&&(sc.names.all fun y=>decide (y.2≠ .cell))&&(sc.names.all fun y=>decide (y.2≠ .local)||decide (sc.names.lookup y.1=some .local))&&
 (sc.names.all fun y=>decide (y.2≠ .free)||decide (sX.names.lookup y.1=some .cell))&&decide (pick.length=N.length)&&
 ((List.range N.length).all fun i=>match pick[i]?,N[i]? with
  |some (some j),some x=>decide (NX[j]? =some x)&&decide (sc.names.lookup x=some .free)&&decide (sX.names.lookup x=some .cell)
  |_,_=>true)
structure CompSc(NX:List Str)(sX sc:Scope)(N:List Str)(pick:List (Option Nat)):Prop where
 kind:sc.kind= .function
 nocell:∀y∈sc.names,y.2≠ .cell
 names:∀y∈sc.names,y.2= .local->sc.names.lookup y.1=some .local
 free:∀n,(n,NameKind.free)∈sc.names->sX.names.lookup n=some .cell
 len:pick.length=N.length
 pk:∀(i j:Nat) (x:Str),pick[i]? =some (some j)->N[i]? =some x->NX[j]? =some x/\sc.names.lookup x=some .free/\sX.names.lookup x=some .cell
theorem Ik{NX:List Str}{sX sc:Scope}{N:List Str}{pick:List (Option Nat)}(h:JE NX sX sc N pick=true):CompSc NX sX sc N pick:=by
 unfold JE at h
 rw[Q0,Q0,Q0,Q0,Q0] at h
 obtain⟨⟨⟨⟨⟨h1,h2⟩,h3⟩,h4⟩,h5⟩,h6⟩:=h
 rw[GF] at h2 h3 h4 h6
 refine⟨A2 h1,fun y hy=>A2 (h2 y hy),fun y hy hl=> ?_,fun n hn=> ?_,A2 h5,fun i j x e1 e2=> ?_⟩
 ·have q:=h3 y hy
  rw[Vb] at q
  rcases q with q|q
  ·exact absurd hl (A2 q)
  ·exact A2 q
 ·have q:=h4 _ hn
  rw[Vb] at q
  rcases q with q|q
  ·exact absurd rfl (A2 q)
  ·exact A2 q
 ·have q:=h6 i (LM.mpr (D9.mp e2).1)
  rw[e1,e2] at q
  have q':(decide (NX[j]? =some x)&&decide (sc.names.lookup x=some .free)&&decide (sX.names.lookup x=some .cell))=true:=q
  rw[Q0,Q0] at q'
  exact⟨A2 q'.1.1,A2 q'.1.2,A2 q'.2⟩
section
variable {prog:Program} {w:World} {A:Around} {E:Value->Shared->Prop} {R:Result->Shared->Prop} {s:Shared}
theorem JF{elt target iter:Expr}{ifs:List Expr}{scope:Scope}{pos:Pos}{it AW:Value}{env:Env}(I:Nat->Shared->Prop)
  (turn:∀n s,I n s->wpAny (model prog w) A (pyNext it) (fun r s₁=>match r with
   |none=>R (.ok .next) s₁
   |some v=>wpAny (model prog w) A (letOwnedTupleGo target it v) (fun _ s₀=>wpAny (model prog w) A (assign target env v) (fun _ s₂=>
     wpAny (model prog w) A (forIn ifs true fun c r=>if r=true then do let ok<-isTrue c env (eval c env);pure (ForInStep.yield ok) else pure (ForInStep.yield r)) (fun ok s₃=>
      if ok=true then wpAny (model prog w) A (eval elt env) (fun x s₄=>
       wpAny (model prog w) A (call (.builtin "list.append") [AW,x]) (fun _ s₅=>∃m,m<n/\I m s₅) (notedBy (model prog w) A env fun e s'=>R (.error e) s') s₄) (notedBy (model prog w) A env fun e s'=>R (.error e) s') s₃
      else ∃m,m<n/\I m s₃) (notedBy (model prog w) A env fun e s'=>R (.error e) s') s₂) (notedBy (model prog w) A env fun e s'=>R (.error e) s') s₀) (notedBy (model prog w) A env fun e s'=>R (.error e) s') s₁) (notedBy (model prog w) A env fun e s'=>R (.error e) s') s)
  (n:Nat)(h:I n s):
  codeAny (model prog w) A (.compLoop (.ListComp elt [⟨target,iter,ifs,0⟩] scope pos) 0 it AW env) R s:=by
 refine codeAny_loop rfl I (fun n s hI=> ?_) n h
 show wpAny _ A ((compTurn (.ListComp elt [⟨target,iter,ifs,0⟩] scope pos) 0 it AW env).onRaise (fun x=>do noteFrame x env;theTreesLotGoes x)) _ _ s
 refine wpAny_noted ?_
 rw[compTurn_list]
 refine x6 (Vh (x6 (U2 (turn n s hI) (fun r s₁ h₁=> ?_) fun _ _ h'=>h')))
 cases r with
 |none=>exact J3 h₁
 |some v=>
  refine x6 (U2 h₁ (fun _ s₀ h₀=> ?_) fun _ _ h'=>h')
  refine x6 (U2 h₀ (fun _ s₂ h₂=>x6 (U2 h₂ (fun ok s₃ h₃=> ?_) fun _ _ h'=>h')) fun _ _ h'=>h')
  cases ok with
  |false=>exact J3 ⟨rfl,h₃⟩
  |true=>
   exact x6 (x6 (U2 h₃ (fun x s₄ h₄=>x6 (U2 h₄ (fun _ s₅ h₅=>J3 (J3 ⟨rfl,h₅⟩)) fun _ _ h'=>h')) fun _ _ h'=>h'))
end
end L2
namespace L2
open PySem PySem.Spec PyProof.Rows
theorem Inw.track{X:Cx}{c7:List (Addr×Obj)}{σ:St}{H:Hp}{s:Shared}{a:Addr}{o:HO}(I:Inw X c7 σ H s)(hn:H a=none)(hL:a≠X.env.locals)(h1:X.s₀.heap.objs.size<=a)
  (h2:∀x c,X.env.cells.lookup x=some c->c≠a)(h3:∀p∈X.pn++c7,p.1≠a)(new:J4 X.prog X.w (upd H a o) s.heap a o):Inw X c7 σ (upd H a o) s:=by
 have ne:∀b u,H b=some u->b≠a:=fun b u e=>k9 e hn
 have old:∀b ob,X.s₀.heap.get? b=some ob->b≠a:=fun b ob e z=>by
  subst z;exact absurd (U4 (O9 e) h1) (Di _)
 refine⟨I.ok,I.os,I.bare,⟨I.base.keep,I.base.slot,fun b ob e n hx=> ?_,I.base.there,fun b xs e=> ?_,fun b ob u e=> ?_,fun b ps e=> ?_⟩,I.loc,I.cell,?_,fun x c e=> ?_,fun p hp=> ?_,fun b u e=> ?_,I.len⟩
 ·rw[i4 (old b ob e)];exact I.base.free b ob e n hx
 ·have q:=I.base.tups b xs e;rw[i4 (ne b _ q)];exact q
 ·have q:=I.base.frzs b ob u e;rw[i4 (ne b _ q)];exact q
 ·obtain⟨more,q⟩:=I.base.tbls b ps e;exact⟨more,by rw[i4 (ne b _ q)];exact q⟩
 ·rw[i4 (Y4 hL)];exact I.free
 ·rw[i4 (h2 x c e)];exact I.freeC x c e
 ·obtain⟨e,n,ne',nf,d⟩:=I.pin p hp
  exact⟨e,by rw[i4 (h3 p hp)];exact n,ne',nf,d⟩
 ·by_cases hb:b=a
  ·subst hb;rw[c5] at e;cases e;exact new
  ·rw[i4 hb] at e
   exact(I.hok b u e).stay (fun _ _ _ q=>q) (fun c q=>by rw[i4 (ne c _ q)];exact q) fun c xs q=>by rw[i4 (ne c _ q)];exact q
def Cx.blk(X:Cx)(sc:Scope)(N:List Str)(C:Addr)(s₀:Shared)(H₀:Hp)(ex:List Addr):Cx:=
 {X with N:=N,s₀:=s₀,H₀:=H₀,env:=compEnvC sc (X9 X.env sc.names []) C X.env,outer:=X.stack,ex:=ex,fn:=fun _=>false,pn:=[],xe:=fun _ _=>False}
def BQ(pick:List (Option Nat))(σ:St):St:=pick.map fun o=>match o with
 |none=>none
 |some j=>match σ[j]? with
  |some (some v)=>some v
  |_=>none
theorem Qj{pick:List (Option Nat)}{σ:St}{i:Nat}{v:V}(h:(BQ pick σ)[i]? =some (some v)):∃j,pick[i]? =some (some j)/\σ[j]? =some (some v):=by
 unfold BQ at h
 rw[u8] at h
 cases e:pick[i]? with
 |none=>rw[e] at h;cases h
 |some o=>
  rw[e] at h
  cases o with
  |none=>cases h
  |some j=>
   refine⟨j,rfl,?_⟩
   have h':(match σ[j]? with|some (some v)=>some v|_=>none)=some v:=Ab h
   cases e2:σ[j]? with
   |none=>rw[e2] at h';cases h'
   |some o2=>
    rw[e2] at h'
    cases o2 with
    |none=>cases h'
    |some v'=>cases h';rfl
section
variable {X:Cx} {c7:List (Addr×Obj)} {σ:St} {H:Hp} {s₂:Shared} {NX N:List Str} {sX sc:Scope} {pick:List (Option Nat)} {fp:List Addr}
theorem Z9(I:Inv X c7 σ H s₂)(ck:CompSc NX sX sc N pick)(hX:X.env.scope=sX){x:Str}{c:Addr}(e:(X9 X.env sc.names []).lookup x=some c):X.env.cells.lookup x=some c:=
 Be sc.names [] (fun n hn=>I.ok.has n (.inl (by show X.env.scope.names.lookup n=_;rw[hX];exact ck.free n hn))) (fun _ _ h=>by simp at h) e
theorem LG(I:Inv X c7 σ H s₂)(ck:CompSc NX sX sc N pick)(hX:X.env.scope=sX):closureFor sc X.env=pure (X9 X.env sc.names []):=
 HA fun n hn=>I.ok.has n (.inl (by show X.env.scope.names.lookup n=_;rw[hX];exact ck.free n hn))
theorem Qbr(I:Inv X c7 σ H s₂)(ck:CompSc NX sX sc N pick)(hX:X.env.scope=sX){C D:Addr}{od:Obj}{H':Hp}(hC:s₂.heap.objs.size<=C)(hD:s₂.heap.objs.size<=D)(hf:∀b∈fp,EW X c7 H b)(Eh:∀b∈fp,b<s₂.heap.objs.size)(hn:∀b∈fp,H' b=none):
  ∀b∈fp,EW (X.blk sc N C s₂ H fp) [(D,od)] H' b:=fun b hb=>by
 obtain⟨f0,f1,f2,f3,f4,f5⟩:=hf b hb
 have T8:=Eh b hb
 refine⟨hn b hb,M7 (U4 T8 hC),fun z=> ?_, .inl hb,fun x c e=>f4 x c (Z9 I ck hX e),fun p hp=> ?_⟩
 ·rcases E8.mp (I.stkSub b z) with e|e
  ·exact f1 e
  ·exact f2 e
 ·have hp':p∈[(D,od)]:=hp
  rw[D4] at hp'
  subst hp'
  exact Iw (U4 T8 hD)
theorem XC(I:Inv X c7 σ H s₂)(ck:CompSc NX sX sc N pick)(hN:X.N=NX)(hX:X.env.scope=sX)(hf:∀b∈fp,EW X c7 H b)(Eh:∀b∈fp,b<s₂.heap.objs.size){h₁:Heap}{C D:Addr}{od:Obj}{m:Str->Option Value}{tk:Nat}
  (old:∀b o,s₂.heap.get? b=some o->h₁.get? b=some o)(hD:s₂.heap.objs.size<=D)(hC:s₂.heap.objs.size<=C)(hDC:D≠C)(hod:h₁.get? D=some od)(hodc:∀v,od.data≠ .cell v)(ns:h₁.Ns C m):
  Inw (X.blk sc N C s₂ H fp) [(D,od)] (BQ pick σ) H {s₂ with heap:=h₁,toks:=tk}:=by
 have kX:X.env.scope.kind= .function:=I.ok.kind
 have noStk:∀b,s₂.heap.objs.size<=b->b∉Rc X.stack:=fun b hb z=>by
  rcases E8.mp (I.stkSub b z) with e|e
  ·exact absurd (U4 I.lt (by rw[<-e];exact hb)) (Di _)
  ·exact I.nofs hb e
 have ok:(X.blk sc N C s₂ H fp).Ok:=by
  refine⟨I.ok.mod,ck.kind,I.ok.glob,I.ok.blt,hC,fun x y c h1 h2=> ?_,fun x hx=> ?_,fun x c h _=> ?_,I.ok.hd,I.ok.frames, .inl rfl,fun b hb=> ?_,I.bs,Ad I.ok.bsz I.sz,fun b o e hb=> ?_,fun b hb z=> ?_,I.stack,I.stkFree⟩
  ·exact I.ok.inj x y c (Z9 I ck hX h1) (Z9 I ck hX h2)
  ·have hx':(relabel sc X.env).names.lookup x=some .cell\/(relabel sc X.env).names.lookup x=some .free:=hx
   refine BF sc.names [] (.inl ?_)
   rcases hx' with h|h
   ·obtain⟨k,h1,h2⟩:=Dm h
    rcases h2 with h2|⟨h2,_⟩
    ·exact absurd h2.symm (ck.nocell _ (En h1))
    ·rw[h2] at h1;exact En h1
   ·obtain⟨k,h1,h2⟩:=Dm h
    rcases h2 with h2|⟨_,h2⟩
    ·rw[<-h2] at h1;exact En h1
    ·cases h2
  ·cases h
  ·have T8:=Eh b hb
   exact⟨M7 (U4 T8 hC),fun x c e=>(hf b hb).2.2.2.2.1 x c (Z9 I ck hX e)⟩
  ·rcases(hf b hb).2.2.2.1 with z|z
   ·exact I.ok.noex b o e z
   ·exact absurd (U4 (O9 e) (Ad I.ok.bsz z)) (Di _)
  ·rcases E8.mp (I.stkSub b z) with e|e
   ·exact(hf b hb).2.1 e
   ·exact(hf b hb).2.2.1 e
 refine⟨ok,rfl,I.bare,Un.kept old,⟨m,ns,fun i x v h1 h2 h3=> ?_⟩,fun x c e=> ?_,I.hok.fresh hC,fun x c e=>I.freeC x c (Z9 I ck hX e),fun p hp=> ?_,I.hok.kept old,?_⟩
 ·obtain⟨j,hp,hσ⟩:=Qj h2
  obtain⟨hNX,VZ,hcl⟩:=ck.pk i j x hp h1
  have kx:X.env.kindOf x=some .cell:=by show X.env.scope.names.lookup x=_;rw[hX];exact hcl
  obtain⟨mX,_,hl⟩:=I.loc
  obtain⟨u,r,l⟩:=hl j x v (by rw[hN];exact hNX) hσ (.inr (.inl kx))
  refine⟨u,r, .inr ⟨.inl (DY kX kx VZ),?_⟩⟩
  rcases l with ⟨k,_⟩|⟨_,c,e,z⟩
  ·rw[kx] at k;cases k
  ·obtain⟨d,hd⟩:=BF (env:=X.env) (x:=x) sc.names [] (.inl (En VZ))
   have hd':=Z9 I ck hX hd
   rw[e] at hd';cases hd'
   obtain⟨o,ho,hc⟩:=z
   exact⟨c,hd,o,old _ _ ho,hc⟩
 ·obtain⟨v,o,ho,hc⟩:=I.cell x c (Z9 I ck hX e)
  exact⟨v,o,old _ _ ho,hc⟩
 ·have hp':p∈[(D,od)]:=hp
  rw[D4] at hp'
  subst hp'
  exact⟨hod,I.hok.fresh hD,hDC,noStk D hD,hodc⟩
 ·unfold BQ
  rw[i5]
  exact ck.len
end
def VR(X:Cx)(ifs:List Expr)(t:TT):Prop:=
 ∀(c7:List (Addr×Obj)) (s:Shared) (σ:St) (H:Hp) (Q:Bool->Hp->Prop),Inv X c7 σ H s->t σ H Q->
  wpAny (model X.prog X.w) X.A (forIn ifs true fun c r=>if r=true then do let ok<-isTrue c X.env (eval c X.env);pure (ForInStep.yield ok) else pure (ForInStep.yield r)) (TP X c7 σ Q) X.xe s
def Wj:TT:=fun _ H Q=>Q true H
theorem R0{X:Cx}:VR X [] Wj:=fun _ _ _ H _ I h=>wpAny_tests_nil ⟨H,I,h⟩
theorem Tk{X:Cx}{c:Expr}{t:TT}(h:PT X c t):VR X [c] t:=fun c7 s σ H Q I q=>wpAny_tests_one (h c7 s σ H Q I q)
def RK(wi:TI)(pick:List (Option Nat))(g:TG)(ti:TT)(te:TE):TE:=fun σ H Q=>wi σ H fun J H1=>∃W:Nat->Nat->List V->St->Hp->Prop,(∃m,W 0 m [] (BQ pick σ) H1)/\∀i m ys σ' H',W i m ys σ' H'->ys.length<=sizeLine/\
 ((J.stop i H'/\∀p,H' p=none->Q (.ref p) (upd H' p (.lst ys)))\/
  (J.go i H'/\∃N:List V->St->Hp->Prop,(∀zs τ L,N zs τ L->∃m',m'<m/\W (i+1) m' zs τ L)/\∀x H2,J.yld i H' x H2->g x σ' H2 fun σ3 H3=>ti σ3 H3 fun b H4=>if b=true then te σ3 H4 fun v H5=>N (ys++[v]) σ3 H5 else N ys σ3 H4))
section
variable {X:Cx} {tg iter elt:Expr} {ifs:List Expr} {NX N:List Str} {sX sc:Scope} {pick:List (Option Nat)} {wi:TI} {g:TG} {ti:TT} {te:TE} {pos:Pos}
theorem Gz{c7:List (Addr×Obj)}{σ:St}{H:Hp}{s₂:Shared}{it:Addr}{fp:List Addr}{tn:Nat->Heap->Prop}{J:It}{Qv:V->Hp->Prop}{E:Value->Shared->Prop}{RR:Value->Addr->Result->Shared->Prop}
  (ck:CompSc NX sX sc N pick)(hN:X.N=NX)(hX:X.env.scope=sX)(hc:X.calm=true)
  (hg:∀C s₀ H₀ ex,PG (X.blk sc N C s₀ H₀ ex) tg g)(Uy:∀C s₀ H₀ ex,VR (X.blk sc N C s₀ H₀ ex) ifs ti)(he:∀C s₀ H₀ ex,PE (X.blk sc N C s₀ H₀ ex) elt te)
  (I:Inv X c7 σ H s₂)(T:Turn X.prog X.w X.K tg J fp it tn)(st:tn 0 s₂.heap)(hf:∀b∈fp,EW X c7 H b)
  (hW:∃W:Nat->Nat->List V->St->Hp->Prop,(∃m,W 0 m [] (BQ pick σ) H)/\∀i m ys σ' H',W i m ys σ' H'->ys.length<=sizeLine/\
   ((J.stop i H'/\∀p,H' p=none->Qv (.ref p) (upd H' p (.lst ys)))\/
    (J.go i H'/\∃N:List V->St->Hp->Prop,(∀zs τ L,N zs τ L->∃m',m'<m/\W (i+1) m' zs τ L)/\∀x H2,J.yld i H' x H2->g x σ' H2 fun σ3 H3=>ti σ3 H3 fun b H4=>if b=true then te σ3 H4 fun v H5=>N (ys++[v]) σ3 H5 else N ys σ3 H4)))
  (fin:∀(D C:Addr) (s':Shared) (H':Hp) (ys:List V) (m:Str->Option Value),D≠C->s₂.heap.objs.size<=C->H' C=none->s'.heap.Ns C m->Inw X c7 σ (upd H' D (.lst ys)) s'->Qv (.ref D) (upd H' D (.lst ys))->RR (.ref D) C (.ok .next) s'):
  wpAny (model X.prog X.w) X.A (newList []) (fun AW s₃=>wpAny (model X.prog X.w) X.A (newFunctionEnv sc X.env.globals (X9 X.env sc.names []) [] X.env.qual none .none (some X.env)) (fun cenv s₄=>
   codeAny (model X.prog X.w) X.A (.compStart (.ListComp elt [⟨tg,iter,ifs,0⟩] sc pos) 0 (.ref it) AW {cenv with scope:=relabel sc X.env}) (RR AW cenv.locals) s₄) E s₃) E s₂:=by
 obtain⟨W,⟨m0,w0⟩,turn⟩:=hW
 refine wpAny_newObj_type (wpAny_newFunctionEnv ck.nocell (by intro y hy;simp at hy) (fun h₁ hns₁ hsb₁=> ?_) ck.kind)
 dsimp only at hns₁ hsb₁⊢
 generalize hH2:s₂.heap.push {cls:= .type "list",dict:=none,data:= .seq ([]:List Value).toArray}=H2 at hns₁ hsb₁⊢
 have hC:H2.objs.size=s₂.heap.objs.size+1:=by rw[<-hH2,Pq]
 have hDC:s₂.heap.objs.size≠H2.objs.size:=by rw[hC];exact M7 (GK _)
 have hCle:s₂.heap.objs.size<=H2.objs.size:=by rw[hC];exact LJ _
 have old:∀b o,s₂.heap.get? b=some o->h₁.get? b=some o:=fun b o e=>
  hsb₁.extBut b o (M7 (U4 (O9 e) hCle)) (Q2 _ (hH2▸Q2 _ e))
 have UD:h₁.get? s₂.heap.objs.size=some {cls:= .type "list",data:= .seq ([]:List Value).toArray}:=hsb₁.extBut _ _ hDC (Q2 _ (hH2▸W8 _ rfl))
 have Eh:∀b∈fp,b<s₂.heap.objs.size:=fun b hb=>by
  obtain⟨o,e,_⟩:=T.obj 0 _ st b hb
  exact O9 e
 have st₁:tn 0 h₁:=T.keep 0 _ _ st fun b _ o e=>old b o e
 generalize hDd:s₂.heap.objs.size=D at*
 generalize hCc:H2.objs.size=C at*
 have loop:∀s₃:Shared,s₃={s₂ with heap:=h₁,toks:=s₂.toks+([]:List (Str×Value)).length}->
   codeAny (model X.prog X.w) X.A (.compLoop (.ListComp elt [⟨tg,iter,ifs,0⟩] sc pos) 0 (.ref it) (.ref D) (X.blk sc N C s₂ H fp).env) (RR (.ref D) C) s₃:=by
  rintro s₃ rfl
  have I0:Inw (X.blk sc N C s₂ H fp) [(D,{cls:= .type "list",data:= .seq ([]:List Value).toArray})] (BQ pick σ) H {s₂ with heap:=h₁,toks:=s₂.toks+([]:List (Str×Value)).length}:=
   XC I ck hN hX hf (fun b hb=>by rw[hDd];exact Eh b hb) old (Iu hDd) (by rw[hDd];exact hCle) hDC UD (fun v z=>by cases z) hns₁
  have fpk:∀{od:Obj} {H':Hp},(∀b∈fp,H' b=none)->∀b∈fp,EW (X.blk sc N C s₂ H fp) [(D,od)] H' b:=fun{od H'} hn=>
   Qbr I ck hX (by rw[hDd];exact hCle) (Iu hDd) hf (fun b hb=>by rw[hDd];exact Eh b hb) hn
  refine JF (fun n s'=>∃(i:Nat) (ys:List V) (A0:List Value) (c:Nat) (σ':St) (H':Hp),Inv (X.blk sc N C s₂ H fp) [(D,{cls:= .type "list",data:= .seq A0.toArray c})] σ' H' s'/\y7 ys A0/\tn i s'.heap/\(∀b∈fp,H' b=none)/\W i n ys σ' H') ?_ m0
   ⟨0,[],[],0,BQ pick σ,H,⟨I0,I.pos⟩, .nil,st₁,fun b hb=>(hf b hb).1,w0⟩
  rintro n s' ⟨i,ys,A0,c,σ',H',I',rv,st',fr,w⟩
  obtain⟨E2,tw⟩:=turn i n ys σ' H' w
  rcases tw with ⟨stop,qn⟩|⟨go,Nx,hNx,step⟩
  ·refine P0 (T.done (X.blk sc N C s₂ H fp) rfl rfl rfl hc i _ s' σ' H' _ I' (fpk fr) st' stop) fun r s4 ⟨hr,I4⟩=> ?_
   subst hr
   obtain⟨m,hn,_⟩:=I4.loc
   obtain⟨p1,p2,p3,p4,_⟩:=I4.pin (D,_) (BV _ (D4.mpr rfl))
   have Jx:Inw X c7 σ H' s4:=I.call' (ch:=fp) I4.os I4.base I4.hok I4.bare fun b hb=>⟨(hf b hb).2.2.2.1,(hf b hb).2.1,(hf b hb).2.2.2.2.1,(hf b hb).2.2.2.2.2⟩
   obtain⟨k0,k1,k2,k3,k4,k5⟩:=I.fpOk (H':=H') (b:=D) (Iu hDd) p2
   have Jt:Inw X c7 σ (upd H' D (.lst ys)) s4:=Jx.track p2 k1 (by rw[<-hDd];exact I.sz) k4 k5 ⟨E2,A0,c,rv,p1⟩
   exact fin D C s4 H' ys m hDC hCle I4.free hn Jt (qn D p2)
  ·refine Ki I'.pos (T.item (X.blk sc N C s₂ H fp) rfl rfl rfl hc i _ s' σ' H' _ I' (fpk fr) st' go) fun r s4 z4 ⟨u,hr,h4⟩=> ?_
   subst hr
   refine Ki z4 h4 fun _ s5 z5 ⟨x,H5,I5,r5,y5,st5,fr5⟩=> ?_
   have I5':Inv _ _ _ _ s5:=⟨I5.pinned (fpk fr5) (T.obj _ _ st5),z5⟩
   refine W6 z5 (U2 (hg C s₂ H fp _ s5 σ' H5 x u _ I5' r5 (step x H5 y5)) (fun _ s6 ⟨σ6,H6,I6,q6⟩ z6=> ?_) fun _ _ z _=>False.elim z)
   refine W6 z6 (U2 (Uy C s₂ H fp _ s6 σ6 H6 _ ⟨I6,z6⟩ q6) (fun b s7 ⟨H7,I7,q7⟩ z7=> ?_) fun _ _ z _=>False.elim z)
   -- what the c7 say behind any step
   have keeps:∀{σ':St} {H':Hp} {s':Shared},Inw (X.blk sc N C s₂ H fp) ([(D,{cls:= .type "list",data:= .seq A0.toArray c})]++FW fp s5.heap) σ' H' s'->
     (∀b∈fp,∀o,s5.heap.get? b=some o->s'.heap.get? b=some o)/\(∀b∈fp,H' b=none):=fun{σ' H' s'} Iz=>
    ⟨fun b hb o e=>(Iz.pin (b,o) (BV _ (BV _ (BB hb e)))).1,fun b hb=>by
     obtain⟨o,e,d⟩:=T.obj _ _ st5 b hb
     exact(Iz.pin (b,o) (BV _ (BV _ (BB hb e)))).2.1⟩
   cases b with
   |false=>
    rw[if_neg Ac] at q7⊢
    obtain⟨m',hm,w7⟩:=hNx _ _ _ q7
    obtain⟨k1,k2⟩:=keeps I7
    exact⟨m',hm,i+1,ys,A0,c,σ6,H7,⟨I7.unpinned,z7⟩,rv,T.keep _ _ _ st5 k1,k2,w7⟩
   |true=>
    rw[if_pos rfl] at q7⊢
    refine W6 z7 (U2 (he C s₂ H fp _ s7 σ6 H7 _ ⟨I7,z7⟩ q7) (fun y s8 ⟨v,H8,I8,r8,q8⟩ z8=> ?_) fun _ _ z _=>False.elim z)
    obtain⟨m',hm,w8⟩:=hNx _ _ _ q8
    obtain⟨k1,k2⟩:=keeps I8
    obtain⟨p1,p2,p3,p4,p5⟩:=I8.pin (D,_) (BV _ (Pt _ (D4.mpr rfl)))
    have hsz:A0.toArray.size<=sizeLine:=by
     rw[D8,<-rv.length];exact E2
    refine wpAny_list_append_plain (hsz:=hsz) ⟨c,p1⟩ fun h₉ ⟨c9,e9⟩ hs₉=> ?_
    have J0:Inw (X.blk sc N C s₂ H fp) [] σ6 H8 s8:=I8.pins_of fun p hp=>absurd hp (by simp)
    have J1:Inw (X.blk sc N C s₂ H fp) [] σ6 H8 {s8 with heap:=h₉}:=J0.turned (t':=s8.toks) (it:=D) (fun b o hb e=>hs₉.extBut b o hb e) p2 p3 (.inr (Iu hDd)) (fun x c' e z=>by
     obtain⟨v',o',ho',_⟩:=I.cell x c' (Z9 I ck hX e)
     have:=O9 ho'
     rw[hDd,z] at this
     exact absurd this (Di _)) (fun p hp=>absurd hp (by intro z;cases z))
    have eArr:A0.toArray.push y=(A0++[y]).toArray:=by simp
    rw[eArr] at e9
    refine⟨m',hm,i+1,ys++[v],A0++[y],c9,σ6,H8,⟨J1.pins_of fun p hp=> ?_,z8⟩,rv.append (.cons r8 .nil),T.keep _ _ _ st5 fun b hb o e=>hs₉.extBut b o (M7 (Eh b hb)) (k1 b hb o e),k2,w8⟩
    rw[D4] at hp
    subst hp
    exact⟨e9,p2,p3,p4,fun v z=>by cases z⟩
 exact codeAny_compStart_list (loop _ rfl) (T.self X.A 0 _ _ _ st₁ (loop _ rfl))
theorem X7(ck:JE NX sX sc N pick=true)(hN:X.N=NX)(hX:X.env.scope=sX)(hc:X.calm=true)(hi:PI X tg iter wi)
  (hg:∀C s₀ H₀ ex,PG (X.blk sc N C s₀ H₀ ex) tg g)(Uy:∀C s₀ H₀ ex,VR (X.blk sc N C s₀ H₀ ex) ifs ti)(he:∀C s₀ H₀ ex,PE (X.blk sc N C s₀ H₀ ex) elt te)
  (hs:∀x,foldedSetIterable iter X.env x=pure x:=by intro _;rfl):PE X (.ListComp elt [⟨tg,iter,ifs,0⟩] sc pos) (RK wi pick g ti te):=by
 intro c7 s σ H Q I h
 have ck:=Ik ck
 rw[eval_ListComp]
 refine VP (use:=none) (cl:=X9 X.env sc.names []) rfl hs (LG I ck hX) ck.kind ck.names (P0 (hi c7 s σ H _ I h) fun v s1 g1=> ?_)
 refine Ki g1.pos g1.run fun itv s2 z2 h2=> ?_
 obtain⟨it,fp,tn,J,H2,e,I2,T,st2,f2,hW⟩:=h2
 subst e
 refine Gz (Qv:=Q) (RR:=fun AW C=>compPost (model X.prog X.w) X.A X.xe none (EP X c7 σ Q) AW C) ck hN hX hc hg Uy he ⟨I2,z2⟩ T st2 f2 hW ?_
 intro D C s' H' ys m hDC hC hCn ns Jt q
 refine⟨m,ns,fun h' hs'=> ?_⟩
 obtain⟨k0,k1,k2,k3,k4,k5⟩:=I2.fpOk (H':=upd H' D (.lst ys)) (b:=C) hC (by rw[i4 (Y4 hDC)];exact hCn)
 exact⟨.ref D,_,Jt.turned (t':=s'.toks) (it:=C) (fun b o hb e=>hs'.extBut b o hb e) k0 k1 k3 k4 k5,rfl,q⟩
theorem Ow{i:Nat}{x:Str}{px spos:Pos}(hNd:X.N.Nodup)(hi':X.N[i]? =some x)(hx:X.env.scope.names.lookup x=some .local)(ck:JE NX sX sc N pick=true)(hN:X.N=NX)(hX:X.env.scope=sX)(hc:X.calm=true)(hi:PI X tg iter wi)
  (hg:∀C s₀ H₀ ex,PG (X.blk sc N C s₀ H₀ ex) tg g)(Uy:∀C s₀ H₀ ex,VR (X.blk sc N C s₀ H₀ ex) ifs ti)(he:∀C s₀ H₀ ex,PE (X.blk sc N C s₀ H₀ ex) elt te)
  (hsw:swapsWith (.ListComp elt [⟨tg,iter,ifs,0⟩] sc pos) (some (.Name x px)) spos.line X.env=pure true:=by rfl)
  (hs:∀x,foldedSetIterable iter X.env x=pure x:=by intro _;rfl):PS X (.Assign [.Name x px] (.ListComp elt [⟨tg,iter,ifs,0⟩] sc pos) spos) (PP (RK wi pick g ti te) (BU i)):=by
 intro c7 s σ H D I h
 have ck:=Ik ck
 rw[exec_Assign_Name_used _ _ _ _ hsw]
 refine x6 (Vh (x6 ?_))
 show wpAny _ X.A (do let _<-comprehension (.ListComp elt [⟨tg,iter,ifs,0⟩] sc pos) sc X.env _ (newList []) false (eval iter X.env) (some (assign (.Name x px) X.env))) _ _ s
 refine x6 (U2 (VP (use:=some (assign (.Name x px) X.env)) (cl:=X9 X.env sc.names []) (Q:=fun _ s'=>SP X c7 D .next s') rfl hs (LG I ck hX) ck.kind ck.names
  (P0 (hi c7 s σ H _ I h) fun v s1 g1=> ?_)) (fun _ s' q=> ?_) fun _ _ z=>z)
 ·refine Ki g1.pos g1.run fun itv s2 z2 h2=> ?_
  obtain⟨it,fp,tn,J,H2,e,I2,T,st2,f2,hW⟩:=h2
  subst e
  refine Gz (Qv:=fun v H'=>D.nx (σ.set i (some v)) H') (RR:=fun AW C=>compPost (model X.prog X.w) X.A X.xe (some (assign (.Name x px) X.env)) (fun _ s'=>SP X c7 D .next s') AW C) ck hN hX hc hg Uy he ⟨I2,z2⟩ T st2 f2 hW ?_
  intro D' C s' H' ys m hDC hC hCn ns Jt q
  refine wpAny_assign_Name (HI (v:= .ref D') Jt hNd hi' (.inl hx) rfl (fun s'' J' ⟨a,sb,ha⟩=> ?_) (.inr hx))
  obtain⟨k0,k1,k2,k3,k4,k5⟩:=I2.fpOk (H':=upd H' D' (.lst ys)) (b:=C) hC (by rw[i4 (Y4 hDC)];exact hCn)
  have hCa:C≠a:=by
   rcases ha with z|z
   ·rw[z];exact k1
   ·exact fun e=>k4 x a z e.symm
  refine⟨m,ns.sameBut sb hCa,fun h' hs'=> ?_⟩
  exact⟨_,_,J'.turned (t':=s''.toks) (it:=C) (fun b o hb e=>hs'.extBut b o hb e) k0 k1 k3 k4 k5,q⟩
 ·first
   |exact J3 (J3 q)
   |exact J3 q
end
section
variable {g:TG} {ti:TT} {te:TE} {Q:VK} {σ:St} {H:Hp}
theorem QI{K:n9}{a:Addr}{xs:List V}(Pv:Nat->List V->St->Hp->Prop)(h0:Pv 0 [] σ H)(hl:∀i ys σ H,i<=xs.length->Pv i ys σ H->o6 K H a xs/\ys.length<=sizeLine)
  (hs:∀i x ys σ H,xs[i]? =some x->Pv i ys σ H->g x σ H fun σ3 H3=>ti σ3 H3 fun b H4=>if b=true then te σ3 H4 fun v H5=>Pv (i+1) (ys++[v]) σ3 H5 else Pv (i+1) ys σ3 H4)
  (hd:∀ys σ H,Pv xs.length ys σ H->∀p,H p=none->Q (.ref p) (upd H p (.lst ys))):
  ∃W:Nat->Nat->List V->St->Hp->Prop,(∃m,W 0 m [] σ H)/\∀i m ys σ' H',W i m ys σ' H'->ys.length<=sizeLine/\
   (((VT K a).stop i H'/\∀p,H' p=none->Q (.ref p) (upd H' p (.lst ys)))\/
    ((VT K a).go i H'/\∃N:List V->St->Hp->Prop,(∀zs τ L,N zs τ L->∃m',m'<m/\W (i+1) m' zs τ L)/\∀x H2,(VT K a).yld i H' x H2->g x σ' H2 fun σ3 H3=>ti σ3 H3 fun b H4=>if b=true then te σ3 H4 fun v H5=>N (ys++[v]) σ3 H5 else N ys σ3 H4)):=by
 refine⟨fun i m ys σ H=>m=xs.length-i/\i<=xs.length/\Pv i ys σ H,⟨xs.length,by simp,x5 _,h0⟩,?_⟩
 rintro i m ys σ H ⟨rfl,hi,p⟩
 obtain⟨q,hz⟩:=hl i ys σ H hi p
 refine⟨hz,?_⟩
 by_cases T8:i<xs.length
 ·refine .inr ⟨⟨xs,xs[i],q,by simp [T8]⟩,Pv (i+1),fun zs σ' H' p'=>⟨xs.length-(i+1),by omega,rfl,T8,p'⟩,fun x H' y=> ?_⟩
  obtain⟨e,y⟩:=y
  subst e
  exact hs i x ys σ _ (y xs q) p
 ·have e:i=xs.length:=by omega
  subst e
  exact .inl ⟨⟨xs,q,l9 _⟩,hd ys σ H p⟩
theorem Nh{lo:Int}{n:Nat}(Pv:Nat->List V->St->Hp->Prop)(h0:Pv 0 [] σ H)(hl:∀i ys σ H,i<=n->Pv i ys σ H->ys.length<=sizeLine)
  (hs:∀i ys σ H,i<n->Pv i ys σ H->g (.int (lo+i)) σ H fun σ3 H3=>ti σ3 H3 fun b H4=>if b=true then te σ3 H4 fun v H5=>Pv (i+1) (ys++[v]) σ3 H5 else Pv (i+1) ys σ3 H4)
  (hd:∀ys σ H,Pv n ys σ H->∀p,H p=none->Q (.ref p) (upd H p (.lst ys))):
  ∃W:Nat->Nat->List V->St->Hp->Prop,(∃m,W 0 m [] σ H)/\∀i m ys σ' H',W i m ys σ' H'->ys.length<=sizeLine/\
   (((Rg lo n).stop i H'/\∀p,H' p=none->Q (.ref p) (upd H' p (.lst ys)))\/
    ((Rg lo n).go i H'/\∃N:List V->St->Hp->Prop,(∀zs τ L,N zs τ L->∃m',m'<m/\W (i+1) m' zs τ L)/\∀x H2,(Rg lo n).yld i H' x H2->g x σ' H2 fun σ3 H3=>ti σ3 H3 fun b H4=>if b=true then te σ3 H4 fun v H5=>N (ys++[v]) σ3 H5 else N ys σ3 H4)):=by
 refine⟨fun i m ys σ H=>m=n-i/\i<=n/\Pv i ys σ H,⟨n,by simp,x5 _,h0⟩,?_⟩
 rintro i m ys σ H ⟨rfl,hi,p⟩
 refine⟨hl i ys σ H hi p,?_⟩
 by_cases T8:i<n
 ·refine .inr ⟨T8,Pv (i+1),fun zs σ' H' p'=>⟨n-(i+1),by omega,rfl,T8,p'⟩,fun x H' y=> ?_⟩
  obtain⟨e,y⟩:=y
  subst e y
  exact hs i ys σ _ T8 p
 ·have e:i=n:=by omega
  subst e
  exact .inl ⟨l9 _,hd ys σ H p⟩
end
def Qdu(lo st:Int)(n:Nat):It:=⟨fun i _=>i<n,fun i H x H'=>H'=H/\x= .int (lo+i*st),fun i _=>n<=i⟩
section
variable {X:Cx} {tg:Expr}
def YH(ta:TA):TI:=fun σ H R=>ta σ H fun vs H1=>∃j c:Int,vs=[.int 0, .int j, .int c]/\(0<=j/\j<=16777216/\1<=c/\c<=1000000)/\R (Qdu 0 c ((j+c-1)/c).toNat) H1
end
def Ite(K:n9)(a:Addr):It:=
 ⟨fun i H=>∃xs x,o6 K H a xs/\xs[i]? =some x,fun i H x H'=>∃(T:Addr) (y:V),H T=none/\x= .ref T/\H'=upd H T (.tup [.int i,y])/\∀xs,o6 K H a xs->xs[i]? =some y,fun i H=>∃xs,o6 K H a xs/\xs.length<=i⟩
theorem PK{P:Program}{w:World}{K:n9}{es:List Expr}{k:Nat}{tp:Pos}(a e it:Addr)(hei:e≠it):Turn P w K (.Tuple es k tp) (Ite K a) [e,it] e (fun i h=>(∃old,IsEnum h e it i old)/\h.IsListIter it a i) where
 mem:=by simp
 obj:=fun i h q b hb=>by
  obtain⟨⟨old,he⟩,o,ho,c,d⟩:=q
  have hb':b=e\/b=it:=by simpa using hb
  rcases hb' with z|z
  ·subst z
   exact⟨_,he,fun v z=>by
    have z':Data.fields _=Data.cell v:=z
    cases z'⟩
  ·subst z
   exact⟨o,ho,fun v z=>by rw[d] at z;cases z⟩
 keep:=fun i h h' q kk=>⟨let ⟨old,he⟩:=q.1;⟨old,kk e (by simp) _ he⟩,q.2.at fun o x=>kk it (by simp) o x⟩
 item:=by
  intro X hP hw hK hc i c7 s σ H E I hf q hg
  subst hP hw hK
  obtain⟨xs,x,hq,hx⟩:=hg
  obtain⟨A0,rv,p,hz⟩:=I.list hq
  obtain⟨u,hu,ru⟩:=rv.get hx
  obtain⟨⟨old,he⟩,Xr⟩:=q
  obtain⟨f0,f1,f2,f3,f4,f5⟩:=hf e (by simp)
  obtain⟨g0,g1,g2,g3,g4,g5⟩:=hf it (by simp)
  refine wpAny_pyNext_enum_item he Xr p.isList (x:=u) (by simpa using hu) hei fun h' ho hit' hT hsz hk=> ?_
  refine⟨_,rfl,wpAny_letOwnedTupleGo_enum ho fun h2 he2 hs2=> ?_⟩
  have helt:e<s.heap.objs.size:=O9 he
  -- both records have turned, the tuple is new
  have k2:∀b o,b≠e->b≠it->s.heap.get? b=some o->h2.get? b=some o:=fun b o b1 b2 q=>hs2.extBut b o b1 (hk b o b1 b2 q)
  have hT2:h2.get? s.heap.objs.size=some {cls:= .type "tuple",data:= .seq #[.int i s.toks,u]}:=hs2.extBut _ _ (Iw helt) hT
  have fn:H s.heap.objs.size=none:=I.hok.fresh (l9 _)
  have I1:Inw X c7 σ (upd H s.heap.objs.size (.tup [.int i,x])) {s with heap:=h2,toks:=s.toks+1}:=by
   obtain⟨m,⟨oL,es,ep,hoL,rL⟩,_⟩:=id I.loc
   refine I.step (g':=s.gens) (d':=s.drawn) (ch:=[e,it]) (fun b hb=> ?_) (fun b o _ _ Ju q _=>k2 b o (fun z=>Ju (by simp [z])) (fun z=>Ju (by simp [z])) q)
    (fun b o _ _ Ju q _=>⟨o.slots,k2 b o (fun z=>Ju (by simp [z])) (fun z=>Ju (by simp [z])) q⟩) (fun b o _ q n=> ?_) (fun b o Ju q=>⟨o,k2 b o (fun z=>Ju (by simp [z])) (fun z=>Ju (by simp [z])) q⟩)
    (fun b ys q=>by rw[i4 (k9 q fn)];exact q) (fun b o u q=>by rw[i4 (k9 q fn)];exact q) (fun b ps q=>⟨#[],by rw[i4 (k9 q fn),q];simp⟩) (fun m' hm=> ?_) (fun b v q=> ?_) I.bare
   ·have hb':b=e\/b=it:=by simpa using hb
    rcases hb' with z|z
    ·subst z;exact⟨f3,f1,f4,f5⟩
    ·subst z;exact⟨g3,g1,g4,g5⟩
   ·rw[i4 (M7 (O9 q))];exact n
   ·obtain⟨o',es',ep',ho',r'⟩:=hm
    exact⟨o',es',ep',k2 _ _ (Y4 f1) (Y4 g1) ho',r'⟩
   ·by_cases hb:b=s.heap.objs.size
    ·subst hb
     rw[c5] at q
     cases q
     exact⟨by show 2<=sizeLine;decide,[.int i s.toks,u], .cons ⟨_,rfl⟩ (.cons ru .nil),_,hT2,rfl,_,rfl⟩
    ·rw[i4 hb] at q
     refine(I.hok b v q).stay (fun c w Ju r=>k2 c w ?_ ?_ r) (fun c r=>by rw[i4 (k9 r fn)];exact r) fun c ys r=>by rw[i4 (k9 r fn)];exact r
     ·intro z;subst z
      rcases Ju with z|z
      ·rw[<-z,f0] at q;cases q
      ·rw[f0] at z;cases z
     ·intro z;subst z
      rcases Ju with z|z
      ·rw[<-z,g0] at q;cases q
      ·rw[g0] at z;cases z
  refine⟨.ref s.heap.objs.size,_,I1,rfl,⟨_,x,fn,rfl,rfl,fun ys hy=>by rw[I.list_inj hy hq];exact hx⟩,⟨⟨_,by simpa using he2⟩,hit'.at fun o y=>(hs2.2 it hei.symm).trans y⟩,fun b hb=> ?_⟩
  have hb':b=e\/b=it:=by simpa using hb
  rcases hb' with z|z
  ·subst z;rw[i4 (M7 helt)];exact f0
  ·subst z
   obtain⟨o,ho',_⟩:=Xr
   rw[i4 (M7 (O9 ho'))];exact g0
 done:=by
  intro X hP hw hK hc i c7 s σ H E I hf q hg
  subst hP hw hK
  obtain⟨xs,hq,hx⟩:=hg
  obtain⟨A0,rv,p,hz⟩:=I.list hq
  obtain⟨⟨old,he⟩,Xr⟩:=q
  obtain⟨g0,g1,g2,g3,g4,g5⟩:=hf it (by simp)
  have hl:=rv.length
  exact wpAny_pyNext_enum_end (I.ok.hd hc) he Xr p.isList (by simp;omega) fun h' eb=>⟨rfl,I.turned (t':=s.toks) (fun b o hb e=>eb b o hb e) g0 g1 g3 g4 g5⟩
 self:=fun _ _ _ _ _ q h=>let ⟨⟨_,he⟩,_⟩:=q;wpAny_pyIter_enum he h
section
variable {X:Cx} {es:List Expr} {k:Nat} {tp:Pos}
def Ut(K:n9)(ta:TA):TI:=fun σ H R=>ta σ H fun vs H1=>∃a,vs=[.ref a]/\(∃xs,o6 K H1 a xs)/\R (Ite K a) H1
theorem QO:bootBuiltins "enumerate"=some (.type "enumerate"):=by decide+kernel
theorem Jd{a:Expr}{ta:TA}{p pos:Pos}(hg:Gl X "enumerate")(hm:X.mg "enumerate"=none)(ha:PA X [a] ta)(hs:starEach [a] X.env=[(false,eval a X.env)]:=by rfl):
  PI X (.Tuple es k tp) (.Call (.Name "enumerate" p) [a] [] pos) (Ut X.K ta):=by
 intro c7 s σ H R I h
 refine Call_ (Gb I hg hm QO (Vf (P0 (ha pos c7 s σ H _ I h) fun us s1 ⟨vs,H1,I1,r1,q1⟩=> ?_) hs rfl))
 obtain⟨a',e,⟨xs,hq⟩,q⟩:=q1
 subst e
 obtain⟨u,rfl,ru⟩:=vals1 r1
 cases ru
 obtain⟨A0,rv,pl,hz⟩:=I1.list hq
 refine call_enumerate_list pl.isList fun h' he Xr hsz kp=> ?_
 refine wpAny_pyIter_enum he ?_
 have I2:Inw X c7 σ H1 {s1 with heap:=h'}:=I1.kept (t':=s1.toks) kp
 refine⟨s1.heap.objs.size+1,[s1.heap.objs.size+1,s1.heap.objs.size],_,_,H1,rfl,I2,PK a' _ _ (Nat.succ_ne_self _),⟨⟨_,he⟩,Xr⟩,fun b hb=> ?_,q⟩
 have hb':b=s1.heap.objs.size+1\/b=s1.heap.objs.size:=by simpa using hb
 rcases hb' with z|z
 ·subst z;exact I1.fpOk (LJ _) (I1.hok.fresh (LJ _))
 ·subst z;exact I1.fpOk (l9 _) (I1.hok.fresh (l9 _))
theorem UJ{K:n9}{a:Addr}{xs:List V}{g:TG}{tb:TS}{D:Ends}{σ:St}{H:Hp}(Pv:Nat->St->Hp->Prop)(h0:Pv 0 σ H)(hl:∀i σ H,i<=xs.length->Pv i σ H->o6 K H a xs)
  (hs:∀(i:Nat) y T σ H,xs[i]? =some y->Pv i σ H->H T=none->g (.ref T) σ (upd H T (.tup [.int i,y])) fun σ2 H2=>tb {D with nx:=Pv (i+1),ct:=Pv (i+1),bk:=D.nx} σ2 H2)(hd:∀σ H,Pv xs.length σ H->D.nx σ H):
  ∃W:Nat->Nat->St->Hp->Prop,(∃m,W 0 m σ H)/\∀i m σ H,W i m σ H->
   ((Ite K a).stop i H/\D.nx σ H)\/((Ite K a).go i H/\∃N:St->Hp->Prop,(∀σ' H',N σ' H'->∃m',m'<m/\W (i+1) m' σ' H')/\∀x H',(Ite K a).yld i H x H'->g x σ H' fun σ2 H2=>tb {D with nx:=N,ct:=N,bk:=D.nx} σ2 H2):=by
 refine⟨fun i m σ H=>m=xs.length-i/\i<=xs.length/\Pv i σ H,⟨xs.length,by simp,x5 _,h0⟩,?_⟩
 rintro i m σ H ⟨rfl,hi,p⟩
 have q:=hl i σ H hi p
 by_cases T8:i<xs.length
 ·refine .inr ⟨⟨xs,xs[i],q,by simp [T8]⟩,Pv (i+1),fun σ' H' p'=>⟨xs.length-(i+1),by omega,rfl,T8,p'⟩,fun x H' y=> ?_⟩
  obtain⟨T,y,hT,e1,e2,e3⟩:=y
  subst e1 e2
  exact hs i y T σ H (e3 xs q) p hT
 ·have e:i=xs.length:=by omega
  subst e
  exact .inl ⟨⟨xs,q,l9 _⟩,hd σ H p⟩
end
section
variable {X:Cx}
end
inductive DV where
 |non|bl (b:Bool)|int (i:Int)|str (x:Str)|lst (ds:List DV)|tup (ds:List DV)
mutual
def AM(K:n9)(H:Hp):DV->V->Prop
 | .non,v=>v= .non
 | .bl b,v=>v= .bl b
 | .int i,v=>v= .int i
 | .str x,v=>v= .str x
 | .lst ds,v=>∃a xs,v= .ref a/\o6 K H a xs/\W9 K H ds xs
 | .tup ds,v=>∃a xs,v= .ref a/\AG K H a xs/\W9 K H ds xs
def W9(K:n9)(H:Hp):List DV->List V->Prop
 |[],xs=>xs=[]
 |d::ds,xs=>∃y ys,xs=y::ys/\AM K H d y/\W9 K H ds ys
end
theorem W9.length{K:n9}{H:Hp}:∀{ds:List DV} {xs:List V},W9 K H ds xs->xs.length=ds.length
 |[],xs,h=>by rw[W9] at h;subst h;rfl
 |d::ds,xs,h=>by rw[W9] at h;obtain⟨y,ys,rfl,_,h⟩:=h;rw[List.length_cons,List.length_cons,W9.length h]
mutual
def Hg:DV->Nat
 | .lst ds=>AK ds+1
 | .tup ds=>AK ds+1
 |_=>0
def AK:List DV->Nat
 |[]=>0
 |d::ds=>max (Hg d) (AK ds)
end
def QbJ{K:n9}{H H':Hp}:Prop:=(∀a xs,o6 K H a xs->o6 K H' a xs)/\∀a xs,AG K H a xs->AG K H' a xs
/- the same data is equal -/
theorem Fz:∀l:List Nat,(l.all fun _=>true)=true
 |[]=>rfl
 |_::r=>by rw[List.all_cons,Fz r];rfl
mutual
theorem QC{X:Cx}{c7:List (Addr×Obj)}{σ:St}{H:Hp}{s:Shared}(I:Inv X c7 σ H s):∀(d:DV) (x y:V) (u v:Value) (A:Around),AM X.K H d x->AM X.K H d y->RelV x u->RelV y v->A.units+Hg d<cLine->SeqAt.EqAt A s u v true
 | .non,x,y,u,v,A,hx,hy,rx,ry,hu=>by
  rw[AM] at hx hy;subst hx hy;cases rx;cases ry;exact JY _
 | .bl b,x,y,u,v,A,hx,hy,rx,ry,hu=>by
  rw[AM] at hx hy;subst hx hy;cases rx;cases ry;exact JY _
 | .int i,x,y,u,v,A,hx,hy,rx,ry,hu=>by
  rw[AM] at hx hy;subst hx hy;obtain⟨t,rfl⟩:=rx;obtain⟨t',rfl⟩:=ry
  have:=SeqAt.EqAt.int_int (A:=A) (s:=s) i t i t'
  simpa using this
 | .str z,x,y,u,v,A,hx,hy,rx,ry,hu=>by
  rw[AM] at hx hy;subst hx hy;obtain⟨t,rfl⟩:=rx;obtain⟨t',rfl⟩:=ry
  have:=SeqAt.EqAt.str_str (A:=A) (s:=s) z t z t'
  simpa using this
 | .lst ds,x,y,u,v,A,hx,hy,rx,ry,hu=>by
  rw[AM] at hx hy
  obtain⟨a,xs,rfl,hq,hd⟩:=hx
  obtain⟨b,ys,rfl,hq',hd'⟩:=hy
  cases rx;cases ry
  by_cases Wc:a=b
  ·subst Wc;exact JY _
  ·obtain⟨A0,r,pl,hz⟩:=I.list hq
   obtain⟨its',r',pl',hz'⟩:=I.list hq'
   have l1:=r.length;have l2:=r'.length;have l3:=hd.length;have l4:=hd'.length
   have hu':A.units+(AK ds+1)<cLine:=hu
   have q:=SeqAt.RcAt.lists (A:=A) (e:=fun _=>true) pl.isList pl'.isList (by simp only[D8];omega) (by omega) fun j h1 h2=>by
    have:=BD I ds xs ys A0 its' A.in1 hd hd' r r' (by rw[NG];omega) j (by simpa using h1) (by simpa using h2)
    simpa using this
   refine SeqAt.EqAt.of_refs Wc ?_
   rw[Fz] at q
   exact q
 | .tup ds,x,y,u,v,A,hx,hy,rx,ry,hu=>by
  rw[AM] at hx hy
  obtain⟨a,xs,rfl,hq,hd⟩:=hx
  obtain⟨b,ys,rfl,hq',hd'⟩:=hy
  cases rx;cases ry
  by_cases Wc:a=b
  ·subst Wc;exact JY _
  ·obtain⟨A0,r,pl,hz⟩:=I.tuple hq
   obtain⟨its',r',pl',hz'⟩:=I.tuple hq'
   have l1:=r.length;have l2:=r'.length;have l3:=hd.length;have l4:=hd'.length
   have hu':A.units+(AK ds+1)<cLine:=hu
   have q:=SeqAt.RcAt.tuples (A:=A) (e:=fun _=>true) pl pl' (by omega) fun j h1 h2=>by
    have:=BD I ds xs ys A0 its' A.in1 hd hd' r r' (by rw[NG];omega) j (by simpa using h1) (by simpa using h2)
    simpa using this
   refine SeqAt.EqAt.of_refs Wc ?_
   have e:A0.length=its'.length:=by omega
   rw[Fz] at q
   simpa [e] using q
theorem BD{X:Cx}{c7:List (Addr×Obj)}{σ:St}{H:Hp}{s:Shared}(I:Inv X c7 σ H s):∀(ds:List DV) (xs ys:List V) (us vs:List Value) (A:Around),W9 X.K H ds xs->W9 X.K H ds ys->y7 xs us->y7 ys vs->A.units+AK ds<cLine->
  ∀(j:Nat) (h1:j<us.length) (h2:j<vs.length),SeqAt.EqAt A s us[j] vs[j] true
 |[],xs,ys,us,vs,A,hx,hy,rx,ry,hu,j,h1,h2=>by
  rw[W9] at hx;subst hx;cases rx;exact absurd h1 (Nat.not_lt_zero _)
 |d::ds,xs,ys,us,vs,A,hx,hy,rx,ry,hu,j,h1,h2=>by
  rw[W9] at hx hy
  obtain⟨x,xs,rfl,dx,hx⟩:=hx
  obtain⟨y,ys,rfl,dy,hy⟩:=hy
  cases rx with
  |cons rx rxs=>
   cases ry with
   |cons ry rys=>
    have hu':A.units+max (Hg d) (AK ds)<cLine:=hu
    cases j with
    |zero=>exact QC I d x y _ _ A dx dy rx ry (by omega)
    |succ j=>exact BD I ds xs ys _ _ A hx hy rxs rys (by omega) j (by simpa using h1) (by simpa using h2)
end
section
variable {X:Cx}
theorem Qav{k:Nat}(hr:Room k X.A):DE X (compareOp .NotEq) (fun x y H Q=>∃ds,Hg (.lst ds)<=60/\AM X.K H (.lst ds) x/\AM X.K H (.lst ds) y/\Q (.bl false) H):=by
 intro c7 s σ H x y v u Q I rx ry h
 obtain⟨ds,hdp,dx,dy,q⟩:=h
 have hcl:X.A.units+64<cLine:=hr.units
 rw[AM] at dx dy
 obtain⟨a,xs,rfl,hq,hd⟩:=dx
 obtain⟨b,ys,rfl,hq',hd'⟩:=dy
 cases rx;cases ry
 obtain⟨A0,r,pl,hz⟩:=I.list hq
 obtain⟨its',r',pl',hz'⟩:=I.list hq'
 have l1:=r.length;have l2:=r'.length;have l3:=hd.length;have l4:=hd'.length
 have hdp':AK ds+1<=60:=hdp
 have q2:=SeqAt.RcNeAt.lists (A:=X.A) (s:=s) (e:=fun _=>true) pl.isList pl'.isList (by simp only[D8];omega) (by omega) (fun j h1 h2=>by
  have:=BD I ds xs ys A0 its' X.A.in1 hd hd' r r' (by rw[NG];omega) j (by simpa using h1) (by simpa using h2)
  simpa using this)
 refine q2 X.prog X.w X.xe _ ⟨.bl false,H,I,?_,q⟩
 show Value.bool _=Value.bool false
 rw[Fz]
 rfl
end
theorem W9.ints{K:n9}{H:Hp}:∀(ns:List Int),W9 K H (ns.map DV.int) (ns.map V.int)
 |[]=>by simp [W9]
 |n::r=>by
  rw[List.map_cons,List.map_cons,W9]
  exact⟨_,_,rfl,by rw[AM],W9.ints r⟩
/- no list within -/
mutual
def Qcs:DV->Bool
 | .lst _=>false
 | .tup ds=>TV ds
 |_=>true
def TV:List DV->Bool
 |[]=>true
 |d::ds=>Qcs d&&TV ds
end
theorem d0{H:Hp}{p:Addr}(h:H p=none)(o:HO):j9 H (upd H p o):=fun b u q=>by rw[i4 (k9 q h)];exact q
theorem j9.newer{H H':Hp}{p:Addr}(e:j9 H H')(h:H p=none)(o:HO):j9 H (upd H' p o):=fun b u q=>by rw[i4 (k9 q h)];exact e b u q
theorem T9{n:Nat}(h:n<=1000):n<=sizeLine:=Dh (P6 h)
theorem UZ{α:Type}{xs:List α}{k:Int}(h0:0<=k)(h:k<(xs.length:Int)):∃v,DI xs k=some v/\xs[k.toNat]? =some v:=by
 have hk:k.toNat<xs.length:=by omega
 have ek:k=((k.toNat:Nat):Int):=by omega
 refine⟨xs[k.toNat],?_,u9 hk⟩
 have q:DI xs ((k.toNat:Nat):Int)=some xs[k.toNat]:=V9 (u9 hk)
 rw[<-ek] at q
 exact q
theorem Ph{α:Type}{xs:List α}{v:α}(h:xs[xs.length-1]? =some v):DI xs (-1)=some v:=by
 have hn:xs.length-1<xs.length:=(D9.mp h).1
 unfold DI Uj
 rw[if_neg (by omega),if_pos (by omega)]
 have:((-1:Int)+xs.length).toNat=xs.length-1:=by omega
 rw[this]
 exact h
section
variable {X:Cx}
theorem Lj(K:n9)(h:X.K=K:=by rfl):Wg X (Qd K):=by subst h;exact Xk
theorem Xl(K:n9)(h:X.K=K:=by rfl):Wg X (Qc K):=by subst h;exact Qa8
theorem slL(K:n9)(h:X.K=K:=by rfl):SlR X (WD K):=by subst h;exact Wr
theorem Ba(K:n9)(h:X.K=K:=by rfl):Ae X (.builtin "len") (fun xs H Q=>∃p ys,xs=[.ref p]/\(o6 K H p ys\/AG K H p ys)/\Q (.int ys.length) H):=by subst h;exact JH
theorem lstK(K:n9)(h:X.K=K:=by rfl):Ae X (.type "list") (fun xs H Q=>∃p ys,xs=[.ref p]/\(o6 K H p ys\/AG K H p ys)/\∀l,H l=none->Q (.ref l) (upd H l (.lst ys))):=by subst h;exact JG
theorem LW(K:n9){es:List Expr}{k:Nat}{t:XI}{n:Nat}{pos:Pos}(hc:X.calm=true)(h:PGs X es t)(hK:X.K=K:=by rfl)
  (hn:(assignEach es X.env).length=n:=by rfl)(Gj:(assignEach es X.env).findIdx? (·.1)=none:=by rfl):PG X (.Tuple es k pos) (UF K n t):=by subst hK;exact Qaq hc h hn Gj
theorem r9(K:n9){tg l:Expr}{tl:TE}(hl:PE X l tl)(h:X.K=K:=by rfl):PI X tg l (OQ K tl):=by subst h;exact WI hl
variable {o e:Expr} {es:List Expr} {to:TE} {t:TA} {name:Str} {apos cpos:Pos} {T id:String} {r:V->List V->Hp->VK->Prop}
theorem XB(K:n9)(pa:PlainAttrs T)(slot:Slot T name id)(hty:typeOf (.builtin id)=pure (.type "method_descriptor"))(hm:MtR X id r)(ho:PE X o to)(h:X.K=K:=by rfl)
  (Gn:attributeBase o name X.env (eval o X.env)=eval o X.env:=by rfl)(Gk:(apos.endLine==cpos.line)=true:=by rfl):PE X (.Call (.Attribute o name apos) [] [] cpos) (Wn K T r to):=by subst h;exact Qas pa slot hty hm ho Gn Gk
theorem Ca(K:n9)(pa:PlainAttrs T)(slot:Slot T name id)(hty:typeOf (.builtin id)=pure (.type "method_descriptor"))(hm:MtR X id r)(ho:PE X o to)(ha:PA X (e::es) t)(h:X.K=K:=by rfl)
  (Gn:attributeBase o name X.env (eval o X.env)=eval o X.env:=by rfl)
  (hfew:((backTo cpos (starEach (e::es) X.env)).all (fun x=> !x.1)&&(backToKw cpos (keywordEach [] X.env)).all (fun x=>x.1.isSome)
   &&decide ((e::es).length+([]:List Keyword).length+(if ([]:List Keyword).isEmpty then 0 else 1)<30))=true:=by rfl)
  (Gk:(apos.endLine==cpos.line)=true:=by rfl)(hs:starEach (e::es) X.env=(false,eval e X.env)::starEach es X.env:=by rfl)(hplain:(backTo cpos (starEach es X.env)).any (·.1)=false:=by rfl):
  PE X (.Call (.Attribute o name apos) (e::es) [] cpos) (tBM K T r to t):=by subst h;exact Qb8 pa slot hty hm ho ha Gn hfew Gk hs hplain
end
def NJ(g:TG)(tb:TS)(D:Ends)(σ:St)(J:It)(H1:Hp):Prop:=∃W:Nat->Nat->St->Hp->Prop,(∃m,W 0 m σ H1)/\∀i m σ H,W i m σ H->
 (J.stop i H/\D.nx σ H)\/(J.go i H/\∃N:St->Hp->Prop,(∀σ' H',N σ' H'->∃m',m'<m/\W (i+1) m' σ' H')/\∀x H',J.yld i H x H'->g x σ H' fun σ2 H2=>tb {D with nx:=N,ct:=N,bk:=D.nx} σ2 H2)
theorem NU(wi:TI)(g:TG)(tb:TS)(D:Ends)(σ:St)(H:Hp):QbH wi g tb D σ H=wi σ H fun J H1=>NJ g tb D σ J H1:=rfl
def LS(pick:List (Option Nat))(g:TG)(ti:TT)(te:TE)(Q:VK)(σ:St)(J:It)(H1:Hp):Prop:=∃W:Nat->Nat->List V->St->Hp->Prop,(∃m,W 0 m [] (BQ pick σ) H1)/\∀i m ys σ' H',W i m ys σ' H'->ys.length<=sizeLine/\
 ((J.stop i H'/\∀p,H' p=none->Q (.ref p) (upd H' p (.lst ys)))\/
  (J.go i H'/\∃N:List V->St->Hp->Prop,(∀zs τ L,N zs τ L->∃m',m'<m/\W (i+1) m' zs τ L)/\∀x H2,J.yld i H' x H2->g x σ' H2 fun σ3 H3=>ti σ3 H3 fun b H4=>if b=true then te σ3 H4 fun v H5=>N (ys++[v]) σ3 H5 else N ys σ3 H4))
theorem Km(wi:TI)(pick:List (Option Nat))(g:TG)(ti:TT)(te:TE)(σ:St)(H:Hp)(Q:VK):RK wi pick g ti te σ H Q=wi σ H fun J H1=>LS pick g ti te Q σ J H1:=rfl
def VQ(c:TT)(tb:TS)(D:Ends)(σ:St)(H:Hp):Prop:=Ml c tb D σ H
theorem HF(c:TT)(tb:TS)(D:Ends)(σ:St)(H:Hp):Ml c tb D σ H=VQ c tb D σ H:=rfl
def Bs(p:Addr)(H:Hp):Hp:=fun b=>if b=p then none else H b
theorem At(p:Addr)(H:Hp):j9 (Bs p H) H:=fun b o e=>by
 unfold Bs at e
 split at e
 ·cases e
 ·exact e
theorem Xt(p:Addr)(H:Hp):Bs p H p=none:=by unfold Bs;rw[if_pos rfl]
theorem CW{p b:Addr}{H:Hp}(h:b≠p):Bs p H b=H b:=by unfold Bs;rw[if_neg h]
theorem Uz(p:Addr)(H:Hp)(o:HO):Bs p (upd H p o)=Bs p H:=by
 funext b
 unfold Bs
 split
 ·rfl
 ·rename_i h;rw[i4 h]
theorem Ih{p:Addr}{H H':Hp}(e:j9 H H'):j9 (Bs p H) (Bs p H'):=fun b o q=>by
 have hb:b≠p:=fun z=>by subst z;rw[Xt] at q;cases q
 rw[CW hb] at q⊢
 exact e b o q
theorem k7{H:Hp}{p q:Addr}{o u:HO}(h:H q=some u)(hp:H p=none):upd H p o q=some u:=by rw[i4 (k9 h hp)];exact h
theorem GC{ns:List Int}{k:Int}(h0:0<=k)(h:k<(ns.length:Int)):∃v,DI (ns.map V.int) k=some (.int v):=by
 obtain⟨v,hv,hv'⟩:=UZ (xs:=ns.map V.int) h0 (by rw[i5];exact h)
 rw[u8] at hv'
 cases e:ns[k.toNat]? with
 |none=>rw[e] at hv';cases hv'
 |some z=>
  rw[e] at hv'
  have:v=V.int z:=(Ab hv').symm
  subst this
  exact⟨z,hv⟩
section
variable {g:TG} {ti:TT} {te:TE} {Q:VK} {σ:St} {H:Hp} {pick:List (Option Nat)} {tb:TS} {D:Ends} {K:n9} {a:Addr} {xs:List V}
theorem Y9(xs:List V)(Pv:Nat->List V->St->Hp->Prop)(h0:Pv 0 [] (BQ pick σ) H)(hl:∀i ys σ H,i<=xs.length->Pv i ys σ H->o6 K H a xs/\ys.length<=sizeLine)
  (hs:∀i x ys σ H,xs[i]? =some x->Pv i ys σ H->g x σ H fun σ3 H3=>ti σ3 H3 fun b H4=>if b=true then te σ3 H4 fun v H5=>Pv (i+1) (ys++[v]) σ3 H5 else Pv (i+1) ys σ3 H4)
  (hd:∀ys σ H,Pv xs.length ys σ H->∀p,H p=none->Q (.ref p) (upd H p (.lst ys))):LS pick g ti te Q σ (VT K a) H:=QI Pv h0 hl hs hd
theorem AU{lo:Int}{n:Nat}(Pv:Nat->List V->St->Hp->Prop)(h0:Pv 0 [] (BQ pick σ) H)(hl:∀i ys σ H,i<=n->Pv i ys σ H->ys.length<=sizeLine)
  (hs:∀i ys σ H,i<n->Pv i ys σ H->g (.int (lo+i)) σ H fun σ3 H3=>ti σ3 H3 fun b H4=>if b=true then te σ3 H4 fun v H5=>Pv (i+1) (ys++[v]) σ3 H5 else Pv (i+1) ys σ3 H4)
  (hd:∀ys σ H,Pv n ys σ H->∀p,H p=none->Q (.ref p) (upd H p (.lst ys))):LS pick g ti te Q σ (Rg lo n) H:=Nh Pv h0 hl hs hd
theorem w6(xs:List V)(Pv:Nat->St->Hp->Prop)(h0:Pv 0 σ H)(hl:∀i σ H,i<=xs.length->Pv i σ H->o6 K H a xs)
  (hs:∀i x σ H,xs[i]? =some x->Pv i σ H->g x σ H fun σ2 H2=>tb {D with nx:=Pv (i+1),ct:=Pv (i+1),bk:=D.nx} σ2 H2)(hd:∀σ H,Pv xs.length σ H->D.nx σ H):NJ g tb D σ (VT K a) H:=UI Pv h0 hl hs hd
theorem EI(xs:List V)(Pv:Nat->St->Hp->Prop)(h0:Pv 0 σ H)(hl:∀i σ H,i<=xs.length->Pv i σ H->o6 K H a xs)
  (hs:∀(i:Nat) y T σ H,xs[i]? =some y->Pv i σ H->H T=none->g (.ref T) σ (upd H T (.tup [.int i,y])) fun σ2 H2=>tb {D with nx:=Pv (i+1),ct:=Pv (i+1),bk:=D.nx} σ2 H2)(hd:∀σ H,Pv xs.length σ H->D.nx σ H):NJ g tb D σ (Ite K a) H:=UJ Pv h0 hl hs hd
theorem O8{lo:Int}{n:Nat}(Pv:Nat->St->Hp->Prop)(h0:Pv 0 σ H)(hs:∀i σ H,i<n->Pv i σ H->g (.int (lo+i)) σ H fun σ2 H2=>tb {D with nx:=Pv (i+1),ct:=Pv (i+1),bk:=D.nx} σ2 H2)(hd:∀σ H,Pv n σ H->D.nx σ H):
  NJ g tb D σ (Rg lo n) H:=Qz Pv h0 hs hd
end
theorem Fy{n:Nat}:∀{ds:List DV},(∀d∈ds,Hg d<=n)->AK ds<=n
 |[],_=>by rw[AK];exact x5 _
 |d::ds,h=>by
  rw[AK]
  exact Nat.max_le.mpr ⟨h d C0,Fy fun e he=>h e (D5 _ he)⟩
theorem Ij(ns:List Int):AK (ns.map DV.int)=0:=Nat.le_zero.mp (Fy fun d hd=>by
 obtain⟨n,_,rfl⟩:=y9.mp hd
 simp [Hg])
abbrev Str.cs(x:Str):List Nat:=x.cps.toList
def Z8{α:Type}(xs:List α)(lo hi:Option Int):List α:=(xs.drop (HT.Ey xs.length 0 lo)).take (HT.Ey xs.length xs.length hi-HT.Ey xs.length 0 lo)
theorem LA{α:Type}(xs:List α){j k:Nat}(h:j<=k):Z8 xs (some (j:Int)) (some (k:Int))=(xs.drop j).take (k-j):=by
 unfold Z8
 rw[HT.Om,HT.Om]
 apply NF
 intro i
 rw[CK,CK,Bk,Bk]
 by_cases h1:i<k-j
 ·rw[if_pos h1]
  by_cases h2:j+i<xs.length
  ·rw[if_pos (by omega)]
   congr 1
   omega
  ·rw[if_neg (by omega),CJ (by omega)]
 ·rw[if_neg h1,if_neg (by omega)]
theorem Mp(lo hi:Option Int)(n:Nat):Builtin.Str.strSliceIndices lo hi 1 n=Builtin.Str.strSliceIndices (some ((HT.Ey n 0 lo:Nat):Int)) (some ((HT.Ey n n hi:Nat):Int)) 1 n:=by
 have clipS:∀(v:Int) (d:Nat),max 0 (min (if v<0 then v+(n:Int) else v) (n:Int))=((HT.Ey n d (some v):Nat):Int):=fun v d=>by
  show max 0 (min (if v<0 then v+(n:Int) else v) (n:Int))=(((if v<0 then (v+(n:Int)).toNat else min v.toNat n):Nat):Int)
  by_cases hv:v<0
  ·simp only[if_pos hv];omega
  ·simp only[if_neg hv];omega
 have clipN:∀k:Nat,k<=n->max 0 (min (if (k:Int)<0 then (k:Int)+(n:Int) else (k:Int)) (n:Int))=(k:Int):=fun k hk=>by
  rw[if_neg (by omega)];omega
 have h1:(1:Int)>0:=by omega
 have l1:=HT.IU n 0 (x5 _) lo
 have l2:=HT.IU n n (l9 _) hi
 unfold Builtin.Str.strSliceIndices
 simp only[h1,if_true]
 rw[clipN _ l1,clipN _ l2]
 cases lo with
 |none=>
  cases hi with
  |none=>rfl
  |some u=>dsimp only;rw[clipS u n];rfl
 |some v=>
  cases hi with
  |none=>dsimp only;rw[clipS v 0];rfl
  |some u=>dsimp only;rw[clipS v 0,clipS u n]
theorem Ho(x:Str)(lo hi:Option Int):StrLaws.sliceText x lo hi=⟨(Z8 x.cps.toList lo hi).toArray⟩:=by
 have hn:x.cps.toList.length=x.length:=by simp [Str.length]
 unfold Z8
 rw[hn]
 have l1:=HT.IU x.length 0 (x5 _) lo
 have l2:=HT.IU x.length x.length (l9 _) hi
 have e:StrLaws.sliceText x lo hi=StrLaws.sliceText x (some ((HT.Ey x.length 0 lo:Nat):Int)) (some ((HT.Ey x.length x.length hi:Nat):Int)):=by
  unfold StrLaws.sliceText
  rw[Mp]
 rw[e]
 generalize HT.Ey x.length 0 lo=a at*
 generalize HT.Ey x.length x.length hi=b at*
 by_cases Wc:a<=b
 ·exact StrLaws.sliceText_nat x Wc l2
 ·have e0:b-a=0:=by omega
  rw[e0,M6]
  have ei:Builtin.Str.strSliceIndices (some (a:Int)) (some (b:Int)) 1 x.length=[]:=by
   unfold Builtin.Str.strSliceIndices
   simp only[show (1:Int)>0 by omega,if_true]
   rw[if_neg (by omega),if_neg (by omega)]
   have q1:max 0 (min (a:Int) (x.length:Int))=(a:Int):=by omega
   have q2:max 0 (min (b:Int) (x.length:Int))=(b:Int):=by omega
   rw[q1,q2]
   unfold sliceRange
   simp only[show (1:Int)>0 by omega,if_true]
   rw[if_neg (by omega)]
   rfl
  unfold StrLaws.sliceText
  rw[ei]
  split
  ·rename_i h
   have hl:x.length=0:=by simp at h;omega
   apply Str.ext'
   have:x.cps= #[]:=Array.eq_empty_of_size_eq_zero (by simpa [Str.length] using hl)
   rw[this]
  ·rfl
section
variable {X:Cx}
def Qaj:V->Option Int->Option Int->Hp->VK->Prop:=fun x lo hi H Q=>∃z,x= .str z/\z.length<=sizeLine/\Q (.str ⟨(Z8 z.cps.toList lo hi).toArray⟩) H
theorem Ss:SlR X Qaj:=by
 intro c7 s σ H x v vl vu lo hi sl Q I rx hs pl pu h
 obtain⟨z,rfl,hz,q⟩:=h
 obtain⟨t,rfl⟩:=rx
 refine⟨"str",_,F.slot_str_getitem.lookup,Pk _ _ _,?_⟩
 obtain⟨o,ho,hc,hd⟩:=hs
 obtain⟨l,hl,el⟩:∃l:Option (Int×Tok),vl=partValue l/\l.map (·.1)=lo:=by
  cases pl with
  |none=>exact⟨none,rfl,rfl⟩
  |int i t=>exact⟨some (i,t),rfl,rfl⟩
 obtain⟨u,hu,eu⟩:∃l:Option (Int×Tok),vu=partValue l/\l.map (·.1)=hi:=by
  cases pu with
  |none=>exact⟨none,rfl,rfl⟩
  |int i t=>exact⟨some (i,t),rfl,rfl⟩
 subst hl hu el eu
 refine wpAny_getItem_str_slice (l:=l) (u:=u) (st:=none) ⟨o,ho,hc,hd⟩ rfl ?_
 have e:=Ho z (l.map (·.1)) (u.map (·.1))
 unfold sliceMade
 refine post_val_or_made (fun _=> ?_) fun t' k=>⟨.str ⟨(Z8 z.cps.toList (l.map (·.1)) (u.map (·.1))).toArray⟩,H,I.tok _,⟨t',?_⟩,q⟩
 ·rename_i hno
  have e2:StrLaws.sliceText z (l.map (·.1)) (u.map (·.1))=⟨((slicePicked z l u none).filterMap (z.cps[·]?)).toArray⟩:=by
   unfold StrLaws.sliceText
   exact if_neg hno
  rw[<-e2,e]
  show (Z8 z.cps.toList (l.map (·.1)) (u.map (·.1))).toArray.size<=sizeLine
  rw[D8]
  unfold Z8
  rw[I9,GG]
  have:z.cps.toList.length=z.length:=by simp [Str.length]
  omega
 ·rw[<-e]
  rfl
theorem U6:DE X (compareOp .LtE) (fun x y H Q=>∃i j,x= .str i/\y= .str j/\Q (.bl (!decide (j.cps.toList<i.cps.toList))) H):=by
 intro c7 s σ H x y v u Q I rx ry h
 obtain⟨i,j,rfl,rfl,q⟩:=h
 obtain⟨t,rfl⟩:=rx
 obtain⟨t',rfl⟩:=ry
 exact PySem.P.le_str ⟨.bl _,H,I,rfl,q⟩
def MF:V->List V->Hp->VK->Prop:=fun x vs H Q=>∃z,x= .str z/\vs=[]/\z.length<=1000000/\(∀c∈z.cps.toList,c<128)/\Q (.str ⟨z.cps.map lo1⟩) H
theorem TY:MtM X "str.lower" MF:=by
 intro c7 s σ H x vs v us Q I rx rv h
 obtain⟨z,rfl,rfl,hz,hA,q⟩:=h
 obtain⟨t,rfl⟩:=rx
 cases rv
 have e:=lower_ascii hA
 have hl:(Txt.lower z).length=z.length:=by rw[e];simp [Str.length]
 have hfit:Builtin.Str.tooLong (Txt.lower z).length=false:=by
  rw[hl]
  unfold Builtin.Str.tooLong
  have:=T6
  exact BG (by omega)
 refine call_gives F.slot_str_lower (Pk _ _ _) F.entry_str_lower (F.args_str_lower_1 _) (gives_str_lower z t hfit) ⟨?_,⟨.str ⟨z.cps.map lo1⟩,H,I.tok _,⟨_,by rw[<-e];rfl⟩,q⟩⟩
 exact fit_le hfit
def MG:V->List V->Hp->VK->Prop:=fun x vs H Q=>∃z c,x= .str z/\vs=[.str ⟨#[c]⟩]/\c∈z.cps.toList/\Q (.int (Txt.find z ⟨#[c]⟩)) H
theorem La(hc:X.calm=true):MtM X "str.index" MG:=by
 intro c7 s σ H x vs v us Q I rx rv h
 obtain⟨z,c,rfl,rfl,hm,q⟩:=h
 obtain⟨t,rfl⟩:=rx
 obtain⟨u,rfl,t',rfl⟩:=rv.one
 have hf:=NE z c
 rw[R8 hm] at hf
 have Ig:(Builtin.Str.occurrences z ⟨#[c]⟩ 0 z.length 1).isEmpty=false:=by
  cases e:(Builtin.Str.occurrences z ⟨#[c]⟩ 0 z.length 1).isEmpty with
  |false=>rfl
  |true=>rw[e] at hf;cases hf
 refine index_or (I.ok.hd hc) (fun _ h=> ?_) fun _ _=>⟨.int _,H,I.tok _,⟨_,rfl⟩,q⟩
 rw[Ig] at h
 cases h
theorem V7(K:n9)(hK:X.K=K:=by rfl):Ae X (.builtin "isinstance") (fun xs H Q=>∃x T t b,xs=[x, .ty T]/\TyOf K H x t/\PySem.W.kitOne K t (.type T)=some b/\Q (.bl b) H):=by
 subst hK
 intro c7 s σ H xs us Q I r h
 obtain⟨x,T,t,b,rfl,ty,e,q⟩:=h
 obtain⟨u,v,rfl,ru,rv⟩:=vals2 r
 cases rv
 exact Qr I ru ty e fun tk=>⟨.bl b,H,I.tok _,rfl,q⟩
theorem Tx(K:n9){k:Nat}(hr:Room k X.A)(hK:X.K=K:=by rfl):DE X (compareOp .Eq) (fun x y H Q=>∃p xs q,x= .ref p/\y= .ref q/\o6 K H p xs/\o6 K H q []/\Q (.bl xs.isEmpty) H):=by
 subst hK
 intro c7 s σ H x y v u Q I rx ry h
 obtain⟨p,xs,q,rfl,rfl,hp,hq,k⟩:=h
 cases rx;cases ry
 have hcl:X.A.units+64<cLine:=hr.units
 obtain⟨A0,r,pl,hz⟩:=I.list hp
 obtain⟨its',r',pl',hz'⟩:=I.list hq
 cases r'
 cases r with
 |nil=>exact SeqAt.eq_listAt (e:=fun _=>true) pl.isList pl'.isList rfl (by omega) (fun j h1 h2=>absurd h1 (by simp)) ⟨.bl true,H,I,rfl,k⟩
 |cons r0 rs=>exact SeqAt.eq_list_lengthsAt pl.isList pl'.isList (by simp) (by omega) ⟨.bl false,H,I,rfl,k⟩
theorem Tu(K:n9){k:Nat}(hr:Room k X.A)(hK:X.K=K:=by rfl):DE X (compareOp .NotEq) (fun x y H Q=>∃p xs q,x= .ref p/\y= .ref q/\o6 K H p xs/\o6 K H q []/\Q (.bl (!xs.isEmpty)) H):=by
 subst hK
 intro c7 s σ H x y v u Q I rx ry h
 obtain⟨p,xs,q,rfl,rfl,hp,hq,k⟩:=h
 cases rx;cases ry
 have hcl:X.A.units+64<cLine:=hr.units
 obtain⟨A0,r,pl,hz⟩:=I.list hp
 obtain⟨its',r',pl',hz'⟩:=I.list hq
 cases r'
 cases r with
 |nil=>exact SeqAt.RcNeAt.lists (A:=X.A) (s:=s) (e:=fun _=>true) pl.isList pl'.isList rfl (by omega) (fun j h1 h2=>absurd h1 (by simp)) X.prog X.w X.xe _ ⟨.bl false,H,I,rfl,k⟩
 |cons r0 rs=>exact SeqAt.RcNeAt.lists_lengths (A:=X.A) (s:=s) pl.isList pl'.isList (by simp) (by omega) X.prog X.w X.xe _ ⟨.bl true,H,I,rfl,k⟩
def Zd(_ j:Int):Prop:=0<j/\j<2^62
theorem Tw:DE X (binaryOp .FloorDiv) (rI Zd fun i j=> .int (i/j)):=opI fun i j _ _ _ _ _ hc q=>by
 have h0:=hc.1
 have h1:=hc.2
 refine floordiv_int (by omega) ?_ (.inl (PyProof.noPylong_of_log2 ?_))
 ·rw[YX _ (by omega)];exact q
 ·have:j.natAbs<2^62:=by omega
  have:=(Nat.log2_lt (by omega)).mpr this
  omega
end
mutual
def n8(H:Hp):DV->V->Prop
 | .non,v=>v= .non
 | .bl b,v=>v= .bl b
 | .int i,v=>v= .int i
 | .str x,v=>v= .str x
 | .lst ds,v=>∃a xs,v= .ref a/\H a=some (.lst xs)/\i3 H ds xs
 | .tup ds,v=>∃a xs,v= .ref a/\H a=some (.tup xs)/\i3 H ds xs
def i3(H:Hp):List DV->List V->Prop
 |[],xs=>xs=[]
 |d::ds,xs=>∃y ys,xs=y::ys/\n8 H d y/\i3 H ds ys
end
mutual
theorem n8.deep{K:n9}{H:Hp}:∀(d:DV) (v:V),n8 H d v->AM K H d v
 | .non,v,h=>by rw[n8] at h;rw[AM];exact h
 | .bl b,v,h=>by rw[n8] at h;rw[AM];exact h
 | .int i,v,h=>by rw[n8] at h;rw[AM];exact h
 | .str x,v,h=>by rw[n8] at h;rw[AM];exact h
 | .lst ds,v,h=>by rw[n8] at h;rw[AM];obtain⟨a,xs,r,q,t⟩:=h;exact⟨a,xs,r,o6.of q,i3.deep ds xs t⟩
 | .tup ds,v,h=>by rw[n8] at h;rw[AM];obtain⟨a,xs,r,q,t⟩:=h;exact⟨a,xs,r,AG.of q,i3.deep ds xs t⟩
theorem i3.deep{K:n9}{H:Hp}:∀(ds:List DV) (xs:List V),i3 H ds xs->W9 K H ds xs
 |[],xs,h=>by rw[i3] at h;rw[W9];exact h
 |d::ds,xs,h=>by rw[i3] at h;rw[W9];obtain⟨y,ys,r,q,t⟩:=h;exact⟨y,ys,r,n8.deep d y q,i3.deep ds ys t⟩
end
theorem i3.length{H:Hp}:∀{ds:List DV} {xs:List V},i3 H ds xs->xs.length=ds.length
 |[],xs,h=>by rw[i3] at h;subst h;rfl
 |d::ds,xs,h=>by rw[i3] at h;obtain⟨y,ys,rfl,_,h⟩:=h;rw[List.length_cons,List.length_cons,i3.length h]
mutual
theorem n8.same{H H':Hp}(e:j9 H H'):∀(d:DV) (v:V),n8 H d v->n8 H' d v
 | .non,v,h=>by rw[n8] at h⊢;exact h
 | .bl b,v,h=>by rw[n8] at h⊢;exact h
 | .int i,v,h=>by rw[n8] at h⊢;exact h
 | .str x,v,h=>by rw[n8] at h⊢;exact h
 | .lst ds,v,h=>by rw[n8] at h⊢;obtain⟨a,xs,r,q,t⟩:=h;exact⟨a,xs,r,e _ _ q,i3.same e ds xs t⟩
 | .tup ds,v,h=>by rw[n8] at h⊢;obtain⟨a,xs,r,q,t⟩:=h;exact⟨a,xs,r,e _ _ q,i3.same e ds xs t⟩
theorem i3.same{H H':Hp}(e:j9 H H'):∀(ds:List DV) (xs:List V),i3 H ds xs->i3 H' ds xs
 |[],xs,h=>by rw[i3] at h⊢;exact h
 |d::ds,xs,h=>by rw[i3] at h⊢;obtain⟨y,ys,r,q,t⟩:=h;exact⟨y,ys,r,n8.same e d y q,i3.same e ds ys t⟩
end
theorem i3.get{H:Hp}:∀{ds:List DV} {xs:List V} {i:Nat} {x:V},i3 H ds xs->xs[i]? =some x->∃d,ds[i]? =some d/\n8 H d x
 |[],xs,i,x,h,e=>by rw[i3] at h;subst h;simp at e
 |d::ds,xs,0,x,h,e=>by
  rw[i3] at h;obtain⟨y,ys,rfl,q,t⟩:=h
  simp at e;subst e;exact⟨d,rfl,q⟩
 |d::ds,xs,i+1,x,h,e=>by
  rw[i3] at h;obtain⟨y,ys,rfl,q,t⟩:=h
  obtain⟨d',e1,e2⟩:=i3.get (i:=i) t (by simpa using e)
  exact⟨d',by simpa using e1,e2⟩
theorem i3.app{H:Hp}:∀{ds es:List DV} {xs ys:List V},i3 H ds xs->i3 H es ys->i3 H (ds++es) (xs++ys)
 |[],es,xs,ys,h,q=>by rw[i3] at h;subst h;exact q
 |d::ds,es,xs,ys,h,q=>by
  rw[i3] at h;obtain⟨y,zs,rfl,r,t⟩:=h
  show i3 H (d::(ds++es)) _
  rw[i3]
  exact⟨y,zs++ys,rfl,r,i3.app t q⟩
theorem i3.one{H:Hp}{d:DV}{x:V}(h:n8 H d x):i3 H [d] [x]:=by
 rw[i3];exact⟨x,[],rfl,h,by rw[i3]⟩
theorem i3.nil{H:Hp}:i3 H [] []:=by rw[i3]
theorem i3.ints{H:Hp}:∀(ns:List Int),i3 H (ns.map DV.int) (ns.map V.int)
 |[]=>by simp [i3]
 |n::r=>by
  rw[List.map_cons,List.map_cons,i3]
  exact⟨_,_,rfl,by rw[n8],i3.ints r⟩
theorem NL{c:TT}{tb:TS}{D:Ends}{σ:St}{H:Hp}(Pv:St->Hp->Prop)(μ:St->Hp->Nat)(h0:Pv σ H)
  (hs:∀σ H,Pv σ H->c σ H fun b H1=>if b=true then ∃N:St->Hp->Prop,(∀σ' H',N σ' H'->∃m',m'<μ σ H/\m'=μ σ' H'/\Pv σ' H')/\tb {D with nx:=N,ct:=N,bk:=D.nx} σ H1 else D.nx σ H1):VQ c tb D σ H:=
 ⟨fun m σ H=>m=μ σ H/\Pv σ H,⟨_,rfl,h0⟩,fun m σ H ⟨e,p⟩=>by subst e;exact hs σ H p⟩
theorem MX{ns:List Int}{i:Nat}{x:V}(h:(ns.map V.int)[i]? =some x):∃z,x= .int z/\ns[i]? =some z:=by
 rw[u8] at h
 cases e:ns[i]? with
 |none=>rw[e] at h;cases h
 |some z=>rw[e] at h;exact⟨z,(Ab h).symm,rfl⟩
theorem Qa9{n:Nat}{k:Int}(h0:0<=k)(h:k<n):Uj n k=some k.toNat:=by
 unfold Uj
 rw[if_pos h0,if_pos h]
def Its(z:Str):It:=⟨fun i _=>i<z.length,fun i H x H'=>H'=H/\∃c,z.cps.toList[i]? =some c/\x= .str ⟨#[c]⟩,fun i _=>z.length<=i⟩
theorem PH{P:Program}{w:World}{K:n9}{tg:Expr}(it:Addr)(z:Str)(t:Tok):Turn P w K tg (Its z) [it] it (fun i h=>h.IsStrIter it "str_ascii_iterator" z t i) where
 mem:=by simp
 obj:=fun i h st b hb=>by
  have e:b=it:=by simpa using hb
  subst e
  obtain⟨o,e,c,d⟩:=st
  exact⟨o,e,fun v z=>by rw[d] at z;cases z⟩
 keep:=fun i h h' st k=>let ⟨o,ho,r⟩:=st;⟨o,k it (by simp) o ho,r⟩
 item:=by
  intro X hP hw hK hc i c7 s σ H E I hf st hg
  subst hP hw hK
  obtain⟨f0,f1,f2,f3,f4,f5⟩:=hf it (by simp)
  have hi:i<z.cps.size:=hg
  refine wpAny_pyNext_ascii_item st (c:=z.cps[i]) (by simp [hi]) fun h' st' sb=> ?_
  have I1:Inw X c7 σ H {s with heap:=h',toks:=s.toks+1}:=I.turned (t':=s.toks+1) (fun b o hb e=>(sb.2 b hb).trans e) f0 f1 f3 f4 f5
  obtain⟨o,e,c,d⟩:=id st'
  exact⟨_,rfl,Lq (s:={s with heap:=h',toks:=s.toks+1}) e c d (by decide) ⟨.str ⟨#[z.cps[i]]⟩,H,I1,⟨_,rfl⟩,⟨rfl,z.cps[i],by simp [hi],rfl⟩,st',fun b hb=>(hf b hb).1⟩⟩
 done:=by
  intro X hP hw hK hc i c7 s σ H E I hf st hg
  subst hP hw hK
  obtain⟨f0,f1,f2,f3,f4,f5⟩:=hf it (by simp)
  have hi:z.cps.size<=i:=hg
  exact wpAny_pyNext_ascii_end (I.ok.hd hc) st (by simp [hi]) fun h' eb=>⟨rfl,I.turned (t':=s.toks) (fun b o hb e=>eb b o hb e) f0 f1 f3 f4 f5⟩
 self:=fun _ _ _ _ _ st h=>wpAny_pyIter_striter_ascii st h
theorem PF{P:Program}{w:World}{K:n9}{tg:Expr}(it:Addr)(z:Str)(t:Tok):Turn P w K tg (Its z) [it] it (fun i h=>h.IsStrIter it "str_iterator" z t i) where
 mem:=by simp
 obj:=fun i h st b hb=>by
  have e:b=it:=by simpa using hb
  subst e
  obtain⟨o,e,c,d⟩:=st
  exact⟨o,e,fun v z=>by rw[d] at z;cases z⟩
 keep:=fun i h h' st k=>let ⟨o,ho,r⟩:=st;⟨o,k it (by simp) o ho,r⟩
 item:=by
  intro X hP hw hK hc i c7 s σ H E I hf st hg
  subst hP hw hK
  obtain⟨f0,f1,f2,f3,f4,f5⟩:=hf it (by simp)
  have hi:i<z.cps.size:=hg
  refine wpAny_pyNext_wide_item st (c:=z.cps[i]) (by simp [hi]) fun h' st' sb=> ?_
  have I1:Inw X c7 σ H {s with heap:=h',toks:=s.toks+1}:=I.turned (t':=s.toks+1) (fun b o hb e=>(sb.2 b hb).trans e) f0 f1 f3 f4 f5
  obtain⟨o,e,c,d⟩:=id st'
  exact⟨_,rfl,Lq (s:={s with heap:=h',toks:=s.toks+1}) e c d (by decide) ⟨.str ⟨#[z.cps[i]]⟩,H,I1,⟨_,rfl⟩,⟨rfl,z.cps[i],by simp [hi],rfl⟩,st',fun b hb=>(hf b hb).1⟩⟩
 done:=by
  intro X hP hw hK hc i c7 s σ H E I hf st hg
  subst hP hw hK
  obtain⟨f0,f1,f2,f3,f4,f5⟩:=hf it (by simp)
  have hi:z.cps.size<=i:=hg
  exact wpAny_pyNext_wide_end (I.ok.hd hc) st (by simp [hi]) fun h' eb=>⟨rfl,I.turned (t':=s.toks) (fun b o hb e=>eb b o hb e) f0 f1 f3 f4 f5⟩
 self:=fun _ _ _ _ _ st h=>wpAny_pyIter_striter_wide st h
def Uq(tl:TE):TI:=fun σ H R=>tl σ H fun x H1=>∃z,x= .str z/\R (Its z) H1
theorem Jc{X:Cx}{tg l:Expr}{tl:TE}(hl:PE X l tl):PI X tg l (Uq tl):=by
 intro c7 s σ H R I h
 refine P0 (hl c7 s σ H _ I h) fun v s1 ⟨x,H1,I1,r1,q1⟩=> ?_
 obtain⟨z,e,q⟩:=q1
 subst e
 obtain⟨t,rfl⟩:=r1
 have fp:∀b∈[s1.heap.objs.size],EW X c7 H1 b:=fun b hb=>by
  have e:b=s1.heap.objs.size:=by simpa using hb
  subst e
  exact I1.fpOk (l9 _) (I1.hok.fresh (l9 _))
 cases ha:z.cps.all (· <128)
 ·exact wpAny_pyIter_wide ha ⟨s1.heap.objs.size,[s1.heap.objs.size],_,_,H1,rfl,I1.kept (t':=s1.toks) fun b o e=>Q2 _ e,PF _ z t,⟨_,W8 _ rfl,rfl,rfl⟩,fp,q⟩
 ·exact wpAny_pyIter_ascii ha ⟨s1.heap.objs.size,[s1.heap.objs.size],_,_,H1,rfl,I1.kept (t':=s1.toks) fun b o e=>Q2 _ e,PH _ z t,⟨_,W8 _ rfl,rfl,rfl⟩,fp,q⟩
section
variable {g:TG} {ti:TT} {te:TE} {Q:VK} {σ:St} {H:Hp} {pick:List (Option Nat)}
theorem EM{z:Str}(Pv:Nat->List V->St->Hp->Prop)(h0:Pv 0 [] (BQ pick σ) H)(hl:∀i ys σ H,i<=z.length->Pv i ys σ H->ys.length<=sizeLine)
  (hs:∀i c ys σ H,z.cps.toList[i]? =some c->Pv i ys σ H->g (.str ⟨#[c]⟩) σ H fun σ3 H3=>ti σ3 H3 fun b H4=>if b=true then te σ3 H4 fun v H5=>Pv (i+1) (ys++[v]) σ3 H5 else Pv (i+1) ys σ3 H4)
  (hd:∀ys σ H,Pv z.length ys σ H->∀p,H p=none->Q (.ref p) (upd H p (.lst ys))):LS pick g ti te Q σ (Its z) H:=by
 refine⟨fun i m ys σ H=>m=z.length-i/\i<=z.length/\Pv i ys σ H,⟨z.length,by simp,x5 _,h0⟩,?_⟩
 rintro i m ys σ H ⟨rfl,hi,p⟩
 refine⟨hl i ys σ H hi p,?_⟩
 by_cases T8:i<z.length
 ·refine .inr ⟨T8,Pv (i+1),fun zs σ' H' p'=>⟨z.length-(i+1),by omega,rfl,T8,p'⟩,fun x H' y=> ?_⟩
  obtain⟨e,c,hc,y⟩:=y
  subst e y
  exact hs i c ys σ _ hc p
 ·have e:i=z.length:=by omega
  subst e
  exact .inl ⟨l9 _,hd ys σ H p⟩
theorem UK{tb:TS}{D:Ends}{z:Str}(Pv:Nat->St->Hp->Prop)(h0:Pv 0 σ H)
  (hs:∀i c σ H,z.cps.toList[i]? =some c->Pv i σ H->g (.str ⟨#[c]⟩) σ H fun σ2 H2=>tb {D with nx:=Pv (i+1),ct:=Pv (i+1),bk:=D.nx} σ2 H2)(hd:∀σ H,Pv z.length σ H->D.nx σ H):NJ g tb D σ (Its z) H:=by
 refine⟨fun i m σ H=>m=z.length-i/\i<=z.length/\Pv i σ H,⟨z.length,by simp,x5 _,h0⟩,?_⟩
 rintro i m σ H ⟨rfl,hi,p⟩
 by_cases T8:i<z.length
 ·refine .inr ⟨T8,Pv (i+1),fun σ' H' p'=>⟨z.length-(i+1),by omega,rfl,T8,p'⟩,fun x H' y=> ?_⟩
  obtain⟨e,c,hc,y⟩:=y
  subst e y
  exact hs i c σ _ hc p
 ·have e:i=z.length:=by omega
  subst e
  exact .inl ⟨l9 _,hd σ H p⟩
end
section
variable {X:Cx}
end
def Qdr(h:Heap)(e:Addr)(C:Value)(dx:Option Addr)(tb:Value):Prop:=∃(oe:Obj) (vs:Array Value),h.get? e=some oe/\oe.cls=C/\oe.dict=dx/\oe.data= .fields vs/\vs[1]? =some tb/\(dx≠none->vs[2]? =some .none)
def Qdt(h:Heap)(T:Addr)(fl:Value):Prop:=∃(o:Obj) (ts:Array Value),h.get? T=some o/\o.data= .fields ts/\ts[3]? =some fl
section
variable {M:Model} {A:Around} {E:Value->Shared->Prop} {s:Shared} {base:Heap} {env:Env} {outer:List Env} {L e:Addr} {C:Value} {dx:Option Addr} {tb:Value} {Q:Unit->Shared->Prop}
end
section
variable {M:Model} {A:Around} {E:Value->Shared->Prop} {s:Shared} {base:Heap} {env:Env} {outer:List Env} {L e:Addr} {C:Value} {dx:Option Addr} {tb:Value} {Q:Unit->Shared->Prop}
end
def XP(e:Addr)(C:Value)(dx:Option Addr)(h:Heap):Prop:=∃(oe:Obj) (vs:Array Value),h.get? e=some oe/\oe.cls=C/\oe.dict=dx/\oe.data= .fields vs/\1<vs.size
def XO(e:Addr)(C:Value)(dx:Option Addr):HO:= .ext (XP e C dx)
section
variable {X:Cx} {c7:List (Addr×Obj)} {σ:St} {H:Hp} {s:Shared} {e:Addr} {C:Value} {dx:Option Addr} {tb:Value}
end
section
variable {P:Program} {w:World} {K:n9} {mg:Str->Option Value} {base:Heap} {N:List Str} {qual:Str} {scope:Scope} {f:Addr} {cd:Value} {A:Around} {outer:List Env} {s:Shared} {H:Hp} {E:XK}
end
abbrev bmV:List Value:=[.type "ValueError", .type "Exception", .type "BaseException", .type "object"]
section
variable {prog:Program} {w:World} {A:Around} {E:Value->Shared->Prop} {h:Heap} {g:Array GenState} {d:Drawn} {t:Nat} {os:OsState} {K:n9}
variable {nm qn:Str} {C N fI:Addr} {bs bm:List Value} {hdct:Bool} {sn:List Str} {sub:List Value} {ab:Bool} {col:Option Bool} {dd:Option Addr} {k0 k1 k2 k3 k5:Option Value}
end
section
open PySem.W Builtin Builtin.ObjectAttr
variable {prog:Program} {w:World} {A:Around} {E:Value->Shared->Prop} {s:Shared} {K:n9} {C FE x:Addr} {o:Obj} {name:Str} {v:Value} {cd:ClassData} {vs:Array Value}
end
def IL(es:Array DictEntry):Bool:=es.toList.all fun e=>match e.key with
 | .str _ _=>true
 |_=>false
structure XCls(K:n9)(C FE:Addr):Prop where
 ob:∃(nm qn:Str) (N:Addr) (bs:List Value) (sn:List Str) (sub:List Value) (ab:Bool) (col:Option Bool) (dd:Option Addr) (k0 k1 k2 k3 k5:Option Value),K.lookup C=some (excClassObj nm qn C N bs (.ref FE::bmV) true sn sub ab col dd k0 k1 k2 k3 k5 "ValueError.__new__")
 fe:∃(c0:Value) (dd:Option Addr) (cd:ClassData) (sl:Array (Option Value)) (c1:Value) (d1:Option Addr) (es:Array DictEntry) (n:Nat) (sl1:Array (Option Value)),K.lookup FE=some ⟨c0,dd, .cls cd,sl⟩/\K.lookup cd.ns=some ⟨c1,d1, .dict es n,sl1⟩/\IL es=true/\nsFind es "__init__"=none
 sa:PySem.W.findIn K (.ref C) "__setattr__"=some (some (.builtin "object.__setattr__"))
section
variable {P:Program} {w:World} {K:n9} {mg:Str->Option Value} {base:Heap} {N:List Str} {qual:Str} {scope:Scope} {f0:Addr} {cd:Value} {A:Around} {outer:List Env} {s0:Shared} {H0:Hp} {E:XK}
end
structure XCatch(K:n9)(FE:Addr):Prop where
 lk:∃(dd:Option Addr) (cd:ClassData) (sl:Array (Option Value)),K.lookup FE=some ⟨.type "type",dd, .cls cd,sl⟩
 ba:PySem.W.mroIn K FE (.type "BaseException")=some true
def xeT(X:Cx)(c7:List (Addr×Obj))(W:St->Addr->Hp->Prop)(ev:Value)(s':Shared):Prop:=∃(e:Addr) (C:Value) (dx:Option Addr) (T:Addr) (σ:St) (H':Hp),ev= .ref e/\Inw X c7 σ H' s'/\H' e=some (XO e C dx)/\T≠e/\EW X c7 H' T/\Qdr s'.heap e C dx (.ref T)/\Qdt s'.heap T .none/\W σ e H'
def Cx.tr(X:Cx)(c7:List (Addr×Obj))(W:St->Addr->Hp->Prop):Cx:={X with pn:=X.pn++c7,xe:=xeT X c7 W}
def Cx.hn(X:Cx)(ev:Value):Cx:={X with A:=X.A.mark (some ev),calm:=false,xe:=fun _ _=>False}
section
variable {X:Cx} {c7 pins':List (Addr×Obj)} {σ:St} {H:Hp} {s:Shared} {W:St->Addr->Hp->Prop} {ev:Value}
end
section
variable {X:Cx} {c7:List (Addr×Obj)} {σ:St} {H:Hp} {s:Shared}
end
structure XAttr(K:n9)(C:Addr):Prop where
 ga:PySem.W.findIn K (.ref C) "__getattribute__"=some (some (.builtin "BaseException.__getattribute__"))
 hk:PySem.W.findIn K (.ref C) "__getattr__"=some none
 ba:PySem.W.mroIn K C (.type "BaseException")=some true
 ob:PySem.W.mroIn K C (.type "object")=some true
 hd:PySem.W.hasDictIn K C=true
 cl:PySem.W.findIn K (.ref C) "__class__"=some (some (.builtin "object.__class__"))
 cg:PySem.W.specialIn K (.builtin "object.__class__") "__get__"=some (some (.builtin "getset_descriptor.__get__"))
 ct:PySem.W.takesIn K (.builtin "object.__class__")=some true
section
open PySem.W Builtin Builtin.ObjectAttr
variable {prog:Program} {w:World} {A:Around} {E:Value->Shared->Prop} {s:Shared} {K:n9} {C x:Addr} {ox:Obj} {od:Option Obj} {name:Str} {v:Value}
end
section
variable {X:Cx}
theorem U5{x:Str}{i:Int}{t:Tok}{pos:Pos}(hg:Gl X x)(hm:X.mg x=some (.int i t))(Nb:(x==("__debug__":Str))=false:=by decide):PE X (.Name x pos) (tC (.int i)):=fun _ _ _ H _ I h=>Ed I hg hm ⟨.int i,H,I,⟨_,rfl⟩,h⟩ Nb
end
section
variable {X:Cx}
theorem El:∀{zs:List Str} {us:List Value},y7 (zs.map V.str) us->CarriedAll us (zs.map PyData.str)
 |[],us,r=>by cases r;exact .nil
 |z::zs,us,r=>by
  cases r with
  |cons r0 rs=>
   obtain⟨t,rfl⟩:=r0
   exact .cons (.str _ t) (El rs)
def Ta(K:n9):V->List V->Hp->VK->Prop:=fun x vs H Q=>∃(z:Str) (p:Addr) (zs:List Str) (B:Nat),x= .str z/\vs=[.ref p]/\o6 K H p (zs.map V.str)/\(∀y∈zs,y.length<=B)/\zs.length<=1000/\B+z.length<=16/\Q (.str (Txt.join z zs)) H
theorem Jl(K:n9)(hK:X.K=K:=by rfl):MtM X "str.join" (Ta K):=by
 subst hK
 intro c7 s σ H x vs v us Q I rx rv h
 obtain⟨z,p,zs,B,rfl,rfl,hp,hB,hl,hs,q⟩:=h
 obtain⟨t,rfl⟩:=rx
 obtain⟨u,rfl,ru⟩:=vals1 rv
 cases ru
 obtain⟨A0,r,pl,hz⟩:=I.list hp
 refine PyProof.Rows.join_madeW (l:=zs) (g:=id) (items:=A0.toArray) B pl.isList (by simpa using El r) hB (by omega) hs fun t' k=>⟨.str (Txt.join z zs),H,I.tok _,⟨t',by simp⟩,q⟩
theorem FF:∀{bs:List Bool} {us:List Value} {i:Nat} {v:Value},y7 (bs.map V.bl) us->us[i]? =some v->∃b,bs[i]? =some b/\v= .bool b
 |[],us,i,v,r,e=>by cases r;simp at e
 |b::bs,us,0,v,r,e=>by cases r with|cons r0 rs=>simp at e;subst e;exact⟨b,rfl,r0⟩
 |b::bs,us,i+1,v,r,e=>by
  cases r with
  |cons r0 rs=>obtain⟨b',e1,e2⟩:=FF (i:=i) rs (by simpa using e);exact⟨b',by simpa using e1,e2⟩
theorem LF(K:n9)(hc:X.calm=true)(hK:X.K=K:=by rfl):Ae X (.builtin "all") (fun xs H Q=>∃(p:Addr) (bs:List Bool),xs=[.ref p]/\o6 K H p (bs.map V.bl)/\Q (.bl (bs.all id)) H):=by
 subst hK
 intro c7 s σ H xs us Q I r h
 obtain⟨p,bs,rfl,hp,q⟩:=h
 obtain⟨u,rfl,ru⟩:=vals1 r
 cases ru
 obtain⟨A0,rv,pl,hz⟩:=I.list hp
 have lt:p<s.heap.objs.size:=let ⟨o,ho,_⟩:=pl.isList;O9 ho
 have ne:p≠s.heap.objs.size:=M7 lt
 refine call_all_walk (Vg pl.isList ⟨_,_,_,_,_,_,fun i=>bs.getD i true,rfl,Walks.list (A:=X.A.in1) (I.ok.hd hc) _ p ne A0.toArray,⟨⟨_,W8 _ rfl,rfl,rfl⟩,pl.isList.push _⟩,?_,fun h' tk k=> ?_⟩)
 ·intro i v s' Q' E' hv hq
  obtain⟨b,e1,rfl⟩:=FF (i:=i) rv (by simpa using hv)
  have e2:bs.getD i true=b:=by rw[JX,e1];rfl
  dsimp only at hq
  rw[e2] at hq
  exact J3 hq
 ·have el:A0.toArray.size=bs.length:=by rw[D8,<-rv.length,i5]
  have ea:((List.range A0.toArray.size).all fun i=>bs.getD i true)=bs.all id:=by
   rw[el,Eo,GF,GF]
   constructor
   ·intro z b hb
    obtain⟨i,hi⟩:=Bj.mp hb
    have:=z i (LM.mpr (D9.mp hi).1)
    rw[JX,hi] at this
    exact this
   ·intro z i hi
    have hi':=LM.mp hi
    rw[JX,u9 hi']
    exact z _ (BK hi')
  rw[ea]
  refine⟨.bl _,H,?_,rfl,q⟩
  have J:=I.kept (h':=s.heap.push {cls:= .type "list_iterator",data:= .fields #[.ref p, .int 0 0]}) (t':=s.toks) fun b o z=>Q2 _ z
  obtain⟨g0,g1,g2,g3,g4,g5⟩:=I.fpOk (H':=H) (b:=s.heap.objs.size) (l9 _) (I.hok.fresh (l9 _))
  exact Inw.turned (s:={s with heap:=s.heap.push {cls:= .type "list_iterator",data:= .fields #[.ref p, .int 0 0]}}) (h':=h') (t':=tk) (it:=s.heap.objs.size) J (fun b o hb z=>k b o (by simpa using hb) z) g0 g1 g3 g4 g5
end
section
variable {X:Cx}
def ipM:TIp:=fun x y H Q=>∃i j,x= .int i/\y= .int j/\VU i j/\Q (.int (i*j)) H
theorem Qba:PIp X .Mult ipM:=by
 intro c7 s σ H x y v u Q I r1 r2 h
 obtain⟨i,j,e1,e2,hc,q⟩:=h
 subst e1;subst e2
 obtain⟨t,rfl⟩:=r1
 obtain⟨t',rfl⟩:=r2
 exact imul_int ⟨.int _,H,I.tok _,⟨_,rfl⟩,q⟩ hc.ok
end
theorem OA{X:Cx}(K:n9){k:Nat}(hr:Room k X.A)(hK:X.K=K:=by rfl):DE X (compareOp .NotEq) (fun x y H Q=>∃ds,Hg (.lst ds)<=60/\AM K H (.lst ds) x/\AM K H (.lst ds) y/\Q (.bl false) H):=by subst hK;exact Qav hr
section
variable {X:Cx} {e st:Expr} {te ts:TE} {pos p2:Pos}
theorem Lr(l:List Nat):∀(m:Nat) (AW:List Nat),List.foldl (fun x1 x2=>x1++x2) AW.toArray (List.replicate m l.toArray)=(AW++(List.replicate m l).flatten).toArray
 |0,AW=>by simp
 |m+1,AW=>by
  rw[List.replicate_succ,List.foldl_cons,show AW.toArray++l.toArray=(AW++l).toArray by simp,Lr l m (AW++l),List.replicate_succ,JW,o5]
theorem WL:DE X (binaryOp .Mult) (fun x y H Q=>∃z n,x= .str z/\y= .int n/\(1<n/\n<=1000/\0<z.length/\z.length<=100)/\∀r:Str,r.cps.toList=(List.replicate n.toNat z.cps.toList).flatten->Q (.str r) H):=by
 intro c7 s σ H x y v u Q I rx ry h
 obtain⟨z,n,rfl,rfl,⟨h1,h2,h3,h4⟩,q⟩:=h
 obtain⟨t,rfl⟩:=rx
 obtain⟨t',rfl⟩:=ry
 have e1:¬n<1:=by omega
 have e2:(n==1||z.length==0)=false:=by
  have a:(n==1)=false:=by simp;omega
  have b:(z.length==0)=false:=by simp;omega
  rw[a,b];rfl
 have hm:z.length*n.toNat<=100000:=Ad (Nat.mul_le_mul h4 (show n.toNat<=1000 by omega)) (by decide)
 have hsl:=T6
 have ef:List.foldl (fun x1 x2=>x1++x2) #[] (List.replicate n.toNat z.cps)=(List.replicate n.toNat z.cps.toList).flatten.toArray:=by
  have:=Lr z.cps.toList n.toNat []
  rw[List.nil_append] at this
  exact this
 refine P.mul_str ?_ (fun _ _=> ?_) (fun _ _=> ?_) ?_
 ·rw[BG (by omega),BG (by omega)];rfl
 ·have:(z.length:Int)<=100:=by omega
  have:(100:Int)<=(2^63-1)/n:=by
   rw[Int.le_ediv_iff_mul_le (by omega)]
   omega
  omega
 ·unfold Builtin.Str.tooLong
  simp
  omega
 ·rw[if_neg e1,if_neg (by rw[e2];decide)]
  refine⟨?_,⟨.str _,H,I.tok _,⟨_,rfl⟩,q _ (by rw[ef])⟩⟩
  show (List.foldl (fun x1 x2=>x1++x2) #[] (List.replicate n.toNat z.cps)).size<=sizeLine
  rw[ef,D8]
  have hl:(List.replicate n.toNat z.cps.toList).flatten.length=n.toNat*z.length:=by
   simp [Str.length]
  rw[hl,ND]
  omega
end
structure XCls0(K:n9)(C FE:Addr):Prop where
 ob:∃(nm qn:Str) (N:Addr) (bs:List Value) (sn:List Str) (sub:List Value) (ab:Bool) (col:Option Bool) (dd:Option Addr) (k0 k1 k2 k3 k5:Option Value) (c1:Value) (d1:Option Addr) (es:Array DictEntry) (n:Nat) (sl1:Array (Option Value)),K.lookup C=some (excClassObj nm qn C N bs (.ref FE::bmV) true sn sub ab col dd k0 k1 k2 k3 k5 "ValueError.__new__")/\
  K.lookup N=some ⟨c1,d1, .dict es n,sl1⟩/\IL es=true/\nsFind es "__init__"=none
 fe:∃(c0:Value) (dd:Option Addr) (cd:ClassData) (sl:Array (Option Value)) (c1:Value) (d1:Option Addr) (es:Array DictEntry) (n:Nat) (sl1:Array (Option Value)),K.lookup FE=some ⟨c0,dd, .cls cd,sl⟩/\K.lookup cd.ns=some ⟨c1,d1, .dict es n,sl1⟩/\IL es=true/\nsFind es "__init__"=none
section
variable {prog:Program} {w:World} {A:Around} {E:Value->Shared->Prop} {h:Heap} {g:Array GenState} {d:Drawn} {t:Nat} {os:OsState}
variable {nm qn:Str} {C N:Addr} {bs bm:List Value} {hdct:Bool} {sn:List Str} {sub:List Value} {ab:Bool} {col:Option Bool} {dd:Option Addr} {k0 k1 k2 k3 k5:Option Value}
end
section
variable {P:Program} {w:World} {K:n9} {mg:Str->Option Value} {base:Heap} {N:List Str} {qual:Str} {scope:Scope} {f0:Addr} {cd:Value} {A:Around} {outer:List Env} {s0:Shared} {H0:Hp} {E:XK}
end
section
variable {X:Cx}
theorem WJ{x:Str}{z:Str}{t:Tok}{pos:Pos}(hg:Gl X x)(hm:X.mg x=some (.str z t))(Nb:(x==("__debug__":Str))=false:=by decide):PE X (.Name x pos) (tC (.str z)):=fun _ _ _ H _ I h=>Ed I hg hm ⟨.str z,H,I,⟨t,rfl⟩,h⟩ Nb
end
theorem HC:∀{ns:List Int} {us:List Value} {i:Nat} {v:Value},y7 (ns.map V.int) us->us[i]? =some v->∃n t,ns[i]? =some n/\v= .int n t
 |[],us,i,v,r,e=>by cases r;simp at e
 |n::ns,us,0,v,r,e=>by
  cases r with
  |cons r0 rs=>
   simp at e
   subst e
   obtain⟨t,rfl⟩:=r0
   exact⟨n,t,rfl,rfl⟩
 |n::ns,us,i+1,v,r,e=>by
  cases r with
  |cons r0 rs=>obtain⟨n',t,e1,e2⟩:=HC (i:=i) rs (by simpa using e);exact⟨n',t,by simpa using e1,e2⟩
theorem Do(ns:List Int):∀k,k<=ns.length->preSum (fun i=>ns.getD i 0) k=(ns.take k).sum
 |0,_=>by simp [preSum]
 |k+1,h=>by
  have hk:k<ns.length:=h
  rw[preSum,Do ns k (Dh hk),q9,JX,u9 hk]
  simp only[DD,VO,JV,K9,List.sum_nil,Int.add_zero]
section
variable {X:Cx}
theorem UW(K:n9)(hc:X.calm=true)(hK:X.K=K:=by rfl):Ae X (.builtin "sum") (fun xs H Q=>∃(p:Addr) (ns:List Int),xs=[.ref p]/\o6 K H p (ns.map V.int)/\Q (.int ns.sum) H):=by
 subst hK
 intro c7 s σ H xs us Q I r h
 obtain⟨p,ns,rfl,hp,q⟩:=h
 obtain⟨u,rfl,ru⟩:=vals1 r
 cases ru
 obtain⟨A0,rv,pl,hz⟩:=I.list hp
 have lt:p<s.heap.objs.size:=let ⟨o,ho,_⟩:=pl.isList;O9 ho
 have ne:p≠s.heap.objs.size:=M7 lt
 refine call_sum_walkAnyS (Vg pl.isList ⟨_,_,_,_,_,_,_,fun i=>ns.getD i 0,rfl,(Walks.list (A:=X.A.in1) (I.ok.hd hc) _ p ne A0.toArray).toS,⟨⟨_,W8 _ rfl,rfl,rfl⟩,pl.isList.push _⟩,?_,?_,fun s' t' m=> ?_⟩)
 ·intro b hb
  rw[Pq]
  rcases E8.mp hb with z|z
  ·rw[z];exact GK _
  ·rw[D4.mp z];exact JU lt
 ·intro i v hv
  obtain⟨n,t,e1,rfl⟩:=HC (i:=i) rv (by simpa using hv)
  exact⟨t,by dsimp only;rw[List.getD_eq_getElem?_getD,e1];rfl⟩
 ·have el:A0.toArray.size=ns.length:=by rw[D8,<-rv.length,i5]
  rw[el,Do ns _ (l9 _),B7]
  refine⟨.int _,H,?_,⟨t',rfl⟩,q⟩
  have J:=I.kept (h':=s.heap.push {cls:= .type "list_iterator",data:= .fields #[.ref p, .int 0 0]}) (t':=s.toks) fun b o z=>Q2 _ z
  obtain⟨g0,g1,g2,g3,g4,g5⟩:=I.fpOk (H':=H) (b:=s.heap.objs.size) (l9 _) (I.hok.fresh (l9 _))
  obtain⟨h',gn,dr,tk,os⟩:=s'
  obtain⟨mh,mg',md,mo,mt⟩:=m
  dsimp only at mh mg' md mo mt
  subst mg' md mo
  exact Inw.turned (s:={s with heap:=s.heap.push {cls:= .type "list_iterator",data:= .fields #[.ref p, .int 0 0]}}) (h':=h') (t':=tk) (it:=s.heap.objs.size) J (fun b o hb z=>mh b o (by simpa using hb) z) g0 g1 g3 g4 g5
end
theorem Bv{c:Const}{k:Nat}{p:Pos}{es:List Expr}{env:Env}:starEach (Expr.Constant c k p::es) env=(false,eval (Expr.Constant c k p) env)::starEach es env:=rfl
theorem RO{l r:Expr}{o:Operator}{p:Pos}{es:List Expr}{env:Env}:starEach (Expr.BinOp l o r p::es) env=(false,eval (Expr.BinOp l o r p) env)::starEach es env:=rfl
section
variable {X:Cx}
end
section
variable {X:Cx}
end
section
variable {X:Cx}
theorem QK:Ae X (.type "str") (fun xs H Q=>∃i:Int,xs=[.int i]/\i.natAbs.log2<1920/\Q (.str (toString i)) H):=by
 intro c7 s σ H xs us Q I r h
 obtain⟨i,rfl,hi,q⟩:=h
 obtain⟨u,rfl,t,rfl⟩:=vals1 r
 exact PySem.P.str_of_int hi ⟨.str _,H,I.tok _,⟨_,rfl⟩,q⟩
end
section
variable {κ:Type} [DecidableEq κ]
def C7(kvs:List (κ×V))(k:κ):Option V:=(kvs.find? fun kv=>decide (kv.1=k)).map (·.2)
def Q3(kvs:List (κ×V))(k:κ)(v:V):List (κ×V):=
 if (kvs.any fun kv=>decide (kv.1=k))=true then kvs.map (fun kv=>if kv.1=k then (kv.1,v) else kv) else kvs++[(k,v)]
theorem E5{p:κ×V}{r:List (κ×V)}{k:κ}(e:p.1=k):C7 (p::r) k=some p.2:=by simp [C7,EU,e]
theorem E6{p:κ×V}{r:List (κ×V)}{k:κ}(e:¬p.1=k):C7 (p::r) k=C7 r k:=by simp [C7,EU,e]
theorem Bl(k:κ):∀kvs:List (κ×V),(kvs.any fun kv=>decide (kv.1=k))=(C7 kvs k).isSome
 |[]=>rfl
 |p::r=>by
  rw[NC]
  by_cases e:p.1=k
  ·simp only[E5 e,R8 e,Bool.true_or,Option.isSome_some]
  ·rw[E6 e,BG e,Bool.false_or];exact Bl k r
theorem Kg(k j:κ)(y:V):∀kvs:List (κ×V),C7 (kvs.map fun kv=>if kv.1=k then (kv.1,y) else kv) j=(C7 kvs j).map fun x=>if j=k then y else x
 |[]=>rfl
 |p::r=>by
  have ih:=Kg k j y r
  rw[List.map_cons]
  by_cases h:p.1=k
  ·rw[if_pos h]
   by_cases e:p.1=j
   ·rw[E5 (p:=(p.1,y)) e,E5 e,JT,if_pos (e.symm.trans h)]
   ·rw[E6 (p:=(p.1,y)) e,E6 e,ih]
  ·rw[if_neg h]
   by_cases e:p.1=j
   ·rw[E5 (p:=p) e,E5 e,JT,if_neg (fun z=>h (e.trans z))]
   ·rw[E6 (p:=p) e,E6 e,ih]
theorem HE(k j:κ)(y:V):∀kvs:List (κ×V),C7 kvs k=none->C7 (kvs++[(k,y)]) j=if j=k then some y else C7 kvs j
 |[],_=>by
  by_cases e:k=j
  ·rw[if_pos e.symm];exact E5 (p:=(k,y)) e
  ·rw[if_neg (fun z=>e z.symm)];exact E6 (p:=(k,y)) e
 |p::r,hn=>by
  rw[List.cons_append]
  have hk:¬p.1=k:=fun z=>by rw[E5 z] at hn;cases hn
  rw[E6 hk] at hn
  have ih:=HE k j y r hn
  by_cases e:p.1=j
  ·rw[E5 e,E5 e,if_neg (fun z=>hk (e.trans z))]
  ·rw[E6 e,E6 e,ih]
theorem DM(kvs:List (κ×V))(k j:κ)(y:V):C7 (Q3 kvs k y) j=if j=k then some y else C7 kvs j:=by
 unfold Q3
 by_cases a:(kvs.any fun kv=>decide (kv.1=k))=true
 ·rw[if_pos a,Kg]
  rw[Bl] at a
  by_cases e:j=k
  ·obtain⟨x,hx⟩:=GJ.mp a
   rw[if_pos e,e,hx,JT,if_pos rfl]
  ·rw[if_neg e]
   cases C7 kvs j with
   |none=>rfl
   |some x=>rw[JT,if_neg e]
 ·rw[if_neg a]
  refine HE k j y kvs ?_
  rw[Bl] at a
  cases q:C7 kvs k with
  |none=>rfl
  |some x=>rw[q] at a;exact(a rfl).elim
theorem W7(kvs:List (κ×V))(k:κ)(v:V):(Q3 kvs k v).length<=kvs.length+1:=by
 unfold Q3
 split
 ·rw[i5];omega
 ·rw[l0,List.length_cons,List.length_nil];omega
theorem X4{kvs:List (κ×V)}{k:κ}(v:V)(h:C7 kvs k=none):Q3 kvs k v=kvs++[(k,v)]:=by
 unfold Q3
 rw[Bl,h]
 exact if_neg (by decide)
theorem Cb.isSome_eq{o:Option V}{u:Option Value}(r:Cb o u):o.isSome=u.isSome:=by
 cases o with
 |none=>cases u with
  |none=>rfl
  |some _=>exact(show False from r).elim
 |some _=>cases u with
  |none=>exact(show False from r).elim
  |some _=>rfl
theorem Cb.getD{o:Option V}{u:Option Value}{d:V}{d':Value}(r:Cb o u)(rd:RelV d d'):RelV (o.getD d) (u.getD d'):=by
 cases o with
 |none=>cases u with
  |none=>exact rd
  |some _=>exact(show False from r).elim
 |some _=>cases u with
  |none=>exact(show False from r).elim
  |some _=>exact r
theorem KV.val{kvs:List (κ×V)}{vs:List (κ×Value)}(r:KV kvs vs)(k:κ):Cb (C7 kvs k) (valueAt vs k):=by
 unfold KV at r
 induction r with
 |nil=>exact True.intro
 | @cons p q ps qs h t ih=>
  obtain⟨h1,h2⟩:=h
  by_cases e:p.1=k
  ·have e':q.1=k:=h1.symm.trans e
   have b:valueAt (q::qs) k=some q.2:=by simp [valueAt,EU,e']
   rw[E5 e,b];exact h2
  ·have e':¬q.1=k:=fun z=>e (h1.trans z)
   have b:valueAt (q::qs) k=valueAt qs k:=by simp [valueAt,EU,e']
   rw[E6 e,b];exact ih
theorem KV.any{kvs:List (κ×V)}{vs:List (κ×Value)}(r:KV kvs vs)(k:κ):(kvs.any fun kv=>decide (kv.1=k))=vs.any fun kv=>decide (kv.1=k):=by
 unfold KV at r
 induction r with
 |nil=>rfl
 |cons h t ih=>rw[NC,NC,ih,h.1]
theorem KV.repl{kvs:List (κ×V)}{vs:List (κ×Value)}(r:KV kvs vs)(k:κ){y:V}{u:Value}(ry:RelV y u):
  KV (kvs.map fun kv=>if kv.1=k then (kv.1,y) else kv) (vs.map fun kv=>if kv.1=k then (kv.1,u) else kv):=by
 unfold KV at r⊢
 induction r with
 |nil=>exact .nil
 | @cons p q ps qs h t ih=>
  rw[List.map_cons,List.map_cons]
  refine .cons ?_ ih
  obtain⟨h1,h2⟩:=h
  by_cases e:p.1=k
  ·rw[if_pos e,if_pos (h1.symm.trans e)];exact⟨h1,ry⟩
  ·rw[if_neg e,if_neg (fun z=>e (h1.trans z))];exact⟨h1,h2⟩
theorem KV.put{kvs:List (κ×V)}{vs:List (κ×Value)}(r:KV kvs vs)(k:κ){y:V}{u:Value}(ry:RelV y u):KV (Q3 kvs k y) (stored vs k u):=by
 unfold Q3 stored
 rw[r.any k]
 by_cases e:(vs.any fun kv=>decide (kv.1=k))=true
 ·rw[if_pos e,if_pos e];exact r.repl k ry
 ·rw[if_neg e,if_neg e];exact Paired.snoc r ⟨rfl,ry⟩
theorem KV.length{kvs:List (κ×V)}{vs:List (κ×Value)}(r:KV kvs vs):kvs.length=vs.length:=XF r
end
theorem Ib{P:Program}{w:World}{k:D7}{u:Value}(r:RelV (kV k) u):(A3 P w).is k u=true:=by
 cases k with
 |inl i=>obtain⟨t,e⟩:=(show ∃t,u=Value.int i t from r);subst e;exact Ld P w i t
 |inr x=>obtain⟨t,e⟩:=(show ∃t,u=Value.str x t from r);subst e;exact Lc P w x t
theorem Ic{P:Program}{w:World}:∀{ks:List D7} {us:List Value},y7 (ks.map kV) us->ItemsAre (A3 P w) ks us
 |[],_,r=>by rw[List.map_nil] at r;cases r;exact .nil
 |k::ks,_,r=>by
  rw[List.map_cons] at r
  cases r with
  |cons h t=>exact .cons (Ib h) (Ic t)
abbrev KT(H:Hp):List (List D7×V)->List (List D7×Addr×Value)->Prop:=Paired fun p q=>p.1=q.1/\H q.2.1=some (.tup (p.1.map kV))/\RelV p.2 q.2.2
theorem KT.val{H:Hp}{kvs:List (List D7×V)}{xs:List (List D7×Addr×Value)}(r:KT H kvs xs)(k:List D7):Cb (C7 kvs k) ((atKey xs k).map (·.2)):=by
 induction r with
 |nil=>exact True.intro
 | @cons p q ps qs h t ih=>
  obtain⟨h1,_,h2⟩:=h
  by_cases e:p.1=k
  ·have e':q.1=k:=h1.symm.trans e
   have b:atKey (q::qs) k=some q.2:=by simp [atKey,EU,e']
   rw[E5 e,b];exact h2
  ·have e':¬q.1=k:=fun z=>e (h1.trans z)
   have b:atKey (q::qs) k=atKey qs k:=by simp [atKey,EU,e']
   rw[E6 e,b];exact ih
theorem KT.repl{H:Hp}{kvs:List (List D7×V)}{xs:List (List D7×Addr×Value)}(r:KT H kvs xs)(k:List D7){y:V}{u:Value}(ry:RelV y u):
  KT H (kvs.map fun kv=>if kv.1=k then (kv.1,y) else kv) (xs.map (putAt k u)):=by
 induction r with
 |nil=>exact .nil
 | @cons p q ps qs h t ih=>
  rw[List.map_cons,List.map_cons]
  refine .cons ?_ ih
  obtain⟨h1,h2,h3⟩:=h
  unfold putAt
  by_cases e:p.1=k
  ·rw[if_pos e,if_pos (h1.symm.trans e)];exact⟨h1,h2,ry⟩
  ·rw[if_neg e,if_neg (fun z=>e (h1.trans z))];exact⟨h1,h2,h3⟩
theorem KT.put{H:Hp}{kvs:List (List D7×V)}{xs:List (List D7×Addr×Value)}(r:KT H kvs xs)(k:List D7){b:Addr}{y:V}{u:Value}(hb:H b=some (.tup (k.map kV)))(ry:RelV y u):
  KT H (Q3 kvs k y) (storedH xs k b u):=by
 have e:(kvs.any fun kv=>decide (kv.1=k))=(atKey xs k).isSome:=by
  rw[Bl,(r.val k).isSome_eq,VN]
 unfold Q3 storedH
 rw[e]
 by_cases q:(atKey xs k).isSome=true
 ·rw[if_pos q,if_pos q];exact r.repl k ry
 ·rw[if_neg q,if_neg q];exact Paired.snoc r ⟨rfl,hb,ry⟩
theorem KT.keeps{H H':Hp}{kvs:List (List D7×V)}{xs:List (List D7×Addr×Value)}(r:KT H kvs xs)(ht:∀b ys,H b=some (.tup ys)->H' b=some (.tup ys)):KT H' kvs xs:=
 Paired.mapP r fun _ _ z=>⟨z.1,ht _ _ z.2.1,z.2.2⟩
section
variable {P:Program} {w:World} {H:Hp} {h:Heap} {a:Addr}
theorem Ys{u:HO}(ok:DF P w H h)(e:Rd H a u):J4 P w H h a u:=e.ok ok
theorem Gx{kvs:List (D7×V)}(ok:DF P w H h)(e:Rd H a (.dK kvs)):kvs.length<=sizeLine/\(a==sysModules)=false/\∃vs,KV kvs vs/\h.DictOf (A3 P w) a vs:=
 show J4 P w H h a (.dK kvs) from Ys ok e
theorem Fc{kvs:List (D7×V)}(ok:DF P w H h)(e:H a=some (.dK kvs)):kvs.length<=sizeLine/\(a==sysModules)=false/\∃vs,KV kvs vs/\h.DictOf (A3 P w) a vs:=Gx ok (.inl e)
theorem Ge{ks:List D7}(ok:DF P w H h)(e:H a=some (.tup (ks.map kV))):(tupleKind (A3 P w)).is h ks a:=by
 obtain⟨_,A0,r,o,h1,h2,n,h3⟩:=(show J4 P w H h a (.tup (ks.map kV)) from ok a _ e)
 exact⟨o,A0.toArray,n,h1,h2,h3,by simpa using Ic r⟩
theorem Ii{kvs:List (List D7×V)}(ok:DF P w H h)(e:Rd H a (.dT kvs)):kvs.length<=sizeLine/\(a==sysModules)=false/\
  ∃xs,KT H kvs xs/\h.DictOfH (tupleKind (A3 P w)) a xs:=by
 obtain⟨z,y,xs,r,o,es,ep,h1,h2,h3,h4,h5⟩:=(show J4 P w H h a (.dT kvs) from Ys ok e)
 refine⟨z,y,xs,r,o,es,ep,h1,h2,h3,h4,fun x hx=> ?_,h5⟩
 have all:∀{l:List (List D7×V)} {m:List (List D7×Addr×Value)},KT H l m->∀x∈m,(tupleKind (A3 P w)).is h x.1 x.2.1:=by
  intro l m q
  induction q with
  |nil=>intro x hx;exact nomatch hx
  | @cons p q ps qs hq t ih=>
   intro x hx
   rcases E8.mp hx with e|hx
   ·subst e
    exact Ge ok (by rw[<-hq.1];exact hq.2.1)
   ·exact ih x hx
 exact all r x hx
theorem YQ{kvs:List (List D7×V)}(ok:DF P w H h)(e:H a=some (.dT kvs)):kvs.length<=sizeLine/\(a==sysModules)=false/\
  ∃xs,KT H kvs xs/\h.DictOfH (tupleKind (A3 P w)) a xs:=Ii ok (.inl e)
end
def BO(H:Hp)(a:Addr)(y:V)(r:Option V):Prop:=
 (∃kvs k,Rd H a (.dK kvs)/\y=kV k/\r=C7 kvs k)\/∃kvs k b,Rd H a (.dT kvs)/\y= .ref b/\H b=some (.tup (k.map kV))/\r=C7 kvs k
def Fk(H:Hp)(a:Addr)(y v:V)(H':Hp):Prop:=
 (∃kvs k,H a=some (.dK kvs)/\y=kV k/\kvs.length<sizeLine/\H'=upd H a (.dK (Q3 kvs k v)))\/
 ∃kvs k b,H a=some (.dT kvs)/\y= .ref b/\H b=some (.tup (k.map kV))/\kvs.length<sizeLine/\H'=upd H a (.dT (Q3 kvs k v))
theorem BO.k{H:Hp}{a:Addr}{kvs:List (D7×V)}{k:D7}(e:H a=some (.dK kvs)):BO H a (kV k) (C7 kvs k):= .inl ⟨kvs,k, .inl e,rfl,rfl⟩
theorem BO.t{H:Hp}{a b:Addr}{kvs:List (List D7×V)}{k:List D7}(e:H a=some (.dT kvs))(eb:H b=some (.tup (k.map kV))):BO H a (.ref b) (C7 kvs k):= .inr ⟨kvs,k,b, .inl e,rfl,eb,rfl⟩
theorem Fk.k{H:Hp}{a:Addr}{kvs:List (D7×V)}{k:D7}{v:V}(e:H a=some (.dK kvs))(hl:kvs.length<sizeLine):Fk H a (kV k) v (upd H a (.dK (Q3 kvs k v))):= .inl ⟨kvs,k,e,rfl,hl,rfl⟩
theorem Fk.t{H:Hp}{a b:Addr}{kvs:List (List D7×V)}{k:List D7}{v:V}(e:H a=some (.dT kvs))(eb:H b=some (.tup (k.map kV)))(hl:kvs.length<sizeLine):
  Fk H a (.ref b) v (upd H a (.dT (Q3 kvs k v))):= .inr ⟨kvs,k,b,e,rfl,eb,hl,rfl⟩
section
variable {X:Cx} {c7:List (Addr×Obj)} {σ:St} {H:Hp} {s:Shared} {a:Addr} {y v:V} {u r:Value} {o:Option V} {A:Around} {E:Value->Shared->Prop}
theorem Inw.big(I:Inw X c7 σ H s):sysModules<s.heap.objs.size:=by
 have h:mainGlobals<s.heap.objs.size:=(I.mod.glob.keeps I.bk).lt
 exact Nat.lt_trans (by decide) h
theorem QG{Q:Value->Shared->Prop}(hu:A.units+1<cLine)(I:Inv X c7 σ H s)(g:BO H a y (some v))(ry:RelV y u)(h:∀w' s',Inw X c7 σ H s'->RelV v w'->Q w' s'):
  wpAny (model X.prog X.w) A (getItem (.ref a) u) Q E s:=by
 rcases g with ⟨kvs,k,e,ey,l⟩|⟨kvs,k,b,e,ey,eb,l⟩
 ·subst ey
  obtain⟨z,hd,vs,rel,dd⟩:=Gx I.hok e
  obtain⟨w',hw,rw'⟩:=Cb.some_of (v:=v) (o:=valueAt vs k) (by rw[l];exact rel.val k)
  exact wpAny_getItem_of (Ib ry) dd.mapOf hw (h w' _ (I.tok _) rw')
 ·subst ey
  cases (show u=Value.ref b from ry)
  obtain⟨z,hd,xs,rel,dd⟩:=Ii I.hok e
  obtain⟨w',hw,rw'⟩:=Cb.some_of (v:=v) (o:=(atKey xs k).map (·.2)) (by rw[l];exact rel.val k)
  obtain⟨p,hp,hp2⟩:=D3.mp hw
  refine wpAny_getItem_heap (JS hu) (Ge I.hok eb) dd hp ?_
  rw[hp2]
  exact h w' _ (I.tok _) rw'
theorem Qdp{Q:Value->Shared->Prop}(hu:A.units+1<cLine)(I:Inv X c7 σ H s)(g:BO H a y o)(ry:RelV y u)(h:∀s',Inw X c7 σ H s'->Q (.bool o.isSome) s'):
  wpAny (model X.prog X.w) A (compareOp .In u (.ref a)) Q E s:=by
 rcases g with ⟨kvs,k,e,ey,l⟩|⟨kvs,k,b,e,ey,eb,l⟩
 ·subst ey
  obtain⟨z,hd,vs,rel,dd⟩:=Gx I.hok e
  refine wpAny_in_of (Ib ry) hd dd.mapOf ?_
  rw[<-(rel.val k).isSome_eq,<-l]
  exact h _ (I.tok _)
 ·subst ey
  cases (show u=Value.ref b from ry)
  obtain⟨z,hd,xs,rel,dd⟩:=Ii I.hok e
  refine wpAny_in_heap (JS hu) (Ge I.hok eb) hd dd ?_
  have q:=(rel.val k).isSome_eq
  rw[VN] at q
  rw[<-q,<-l]
  exact h _ (I.tok _)
theorem JB{h':Heap}{t':Nat}{ob:HO}(I:Inv X c7 σ H s)(mu:Mut (H a))(hs:Heap.SameBut a s.heap h')(he:∃q,h'.get? a=some q)(new:J4 X.prog X.w (upd H a ob) h' a ob):
  Inw X c7 σ (upd H a ob) {s with heap:=h',toks:=t'}:=
 I.write (x:=a) (e:=a) mu (.inl rfl) (fun b q hb z=>(hs.2 b hb).trans z) he new
theorem UQ{P:Program}{w:World}{H':Hp}{h':Heap}{kvs:List (D7×V)}{vs:List (D7×Value)}(z:kvs.length<=sizeLine)(hd:(a==sysModules)=false)(rel:KV kvs vs)(dd:h'.DictOf (A3 P w) a vs):
  J4 P w H' h' a (.dK kvs):=⟨z,hd,vs,rel,dd⟩
theorem QF{H':Hp}{Q:Unit->Shared->Prop}(hu:A.units+1<cLine)(I:Inv X c7 σ H s)(g:Fk H a y v H')(ry:RelV y u)(rv:RelV v r)(h:∀s',Inw X c7 σ H' s'->Q () s'):
  wpAny (model X.prog X.w) A (setItem (.ref a) u r) Q E s:=by
 rcases g with ⟨kvs,k,e,ey,l,eH⟩|⟨kvs,k,b,e,ey,eb,l,eH⟩
 ·subst ey eH
  obtain⟨z,hd,vs,rel,dd⟩:=Fc I.hok e
  have hz:vs.length<=sizeLine:=by rw[<-rel.length];exact z
  have hl:(Q3 kvs k v).length<=sizeLine:=by have:=W7 kvs k v;omega
  refine wpAny_setItem_pairs (hsz:=hz) (Ib ry) dd fun h' dd' hs=>h _ ?_
  have he:∃q,h'.get? a=some q:=let ⟨q,_,_,hq,_⟩:=dd';⟨q,hq⟩
  exact JB I (by rw[e];exact True.intro) hs he (UQ hl hd (rel.put k rv) dd')
 ·subst ey eH
  cases (show u=Value.ref b from ry)
  obtain⟨z,hd,xs,rel,dd⟩:=YQ I.hok e
  have hz:xs.length<=sizeLine:=by rw[<-XF rel];exact z
  have hl:(Q3 kvs k v).length<=sizeLine:=by have:=W7 kvs k v;omega
  refine wpAny_setItem_heap (hsz:=hz) (JS hu) (Ge I.hok eb) dd fun h' dd' hs=>h _ ?_
  obtain⟨q,es,ep,hq,h2,h3,h4,_,h5⟩:=dd'
  refine JB I (by rw[e];exact True.intro) hs ⟨q,hq⟩ ⟨hl,hd,_,(rel.put k eb rv).keeps fun c ys ec=> ?_,q,es,ep,hq,h2,h3,h4,h5⟩
  rw[i4 (AO ec e (fun z=>nomatch z))]
  exact ec
end
section
variable {X:Cx} {c7:List (Addr×Obj)} {σ:St} {H:Hp} {s:Shared} {a:Addr} {kvs:List (D7×V)} {k:D7} {u:Value} {A:Around} {E:Value->Shared->Prop}
theorem Qc4{Q:Value->Shared->Prop}(I:Inv X c7 σ H s)(e:Rd H a (.dK kvs))(h:∀t s',Inw X c7 σ H s'->Q (.int kvs.length t) s'):wpAny (model X.prog X.w) A (call (.builtin "len") [.ref a]) Q E s:=by
 obtain⟨z,hd,vs,rel,dd⟩:=Gx I.hok e
 refine call_len_dict hd dd (by rw[<-rel.length];rw[T6] at z;omega) ?_
 rw[<-rel.length]
 exact h _ _ (I.tok _)
end
def Qc7(i:Expr):Prop:=∀ov iv,subscripted i false ov iv=operate [ov,iv] (getItem ov iv)
theorem Wp{prog:Program}{w:World}{A:Around}{E:Value->Shared->Prop}{s:Shared}{env:Env}{value slice:Expr}{pos:Pos}{T id:String}{Q:Value->Shared->Prop}
  (hl:typeLookup (.type T) "__getitem__"=pure (some (.builtin id)))(hs:Qc7 slice)
  (h:wpAny (model prog w) A (eval value env) (fun o s₁=>wpAny (model prog w) A (eval slice env) (fun i s₂=>s₂.TypeIs o T/\wpAny (model prog w) A (getItem o i) Q E s₂) E s₁) E s):
  wpAny (model prog w) A (eval (.Subscript value slice pos) env) Q E s:=by
 refine Subscript_ (U2 h (fun o s₁ h₁=>U2 h₁ (fun i s₂ h₂=> ?_) fun _ _ x=>x) fun _ _ x=>x)
 obtain⟨hT,h₂⟩:=h₂
 unfold subscriptTail
 refine x6 ?_
 rw[getitemInPython_of_ne hT.not_modules]
 refine x6 (wpAny_specialOf hT hl ?_)
 have fin:wpAny (model prog w) A (subscripted slice false o i) (fun r s₃=>wpAny (model prog w) A (letTemporaryGo value o r>>=fun _=>pure r) Q E s₃) E s₂:=by
  rw[hs o i]
  exact wpAny_operating (U2 h₂ (fun r s₃ h₃=>x6 (wpAny_letTemporaryGo (J3 h₃))) fun _ _ x=>x)
 first
  |exact J3 (x6 fin)
  |exact x6 (J3 (x6 fin))
  |exact x6 fin
theorem Lx{X:Cx}{c7:List (Addr×Obj)}{σ:St}{H:Hp}{s:Shared}{a:Addr}{y:V}{o:Option V}(I:Inv X c7 σ H s)(g:BO H a y o):s.TypeIs (.ref a) "dict":=by
 rcases g with ⟨kvs,k,e,_,_⟩|⟨kvs,k,b,e,_,_,_⟩
 ·obtain⟨_,_,vs,_,dd⟩:=Gx I.hok e
  exact dd.typeIs
 ·obtain⟨_,_,xs,_,dd⟩:=Ii I.hok e
  exact dd.typeIs
def DN(td ty:TE):TE:=fun σ H Q=>td σ H fun x H1=>ty σ H1 fun y H2=>∃a v,x= .ref a/\BO H2 a y (some v)/\Q v H2
def QbI(ty td:TE):TE:=fun σ H Q=>ty σ H fun y H1=>td σ H1 fun x H2=>∃a o,x= .ref a/\BO H2 a y o/\Q (.bl o.isSome) H2
def EY(td ty tv:TE):TS:=fun D σ H=>tv σ H fun v H1=>td σ H1 fun x H2=>ty σ H2 fun y H3=>∃a H4,x= .ref a/\Fk H3 a y v H4/\D.nx σ H4
section
variable {X:Cx} {o i e value:Expr} {pos pos' tpos:Pos} {td ty tv:TE}
theorem Z1(hu:X.A.units+1<cLine)(ho:PE X o td)(hi:PE X i ty)(hs:Qc7 i):PE X (.Subscript o i pos) (DN td ty):=by
 intro c7 s σ H Q I h
 refine Wp PySem.F.slot_dict_getitem.lookup hs (P0 (ho c7 s σ H _ I h) fun u s1 ⟨x,H1,I1,rx,q1⟩=>P0 (hi c7 s1 σ H1 _ I1 q1) fun iv s2 ⟨y,H2,I2,ry,a,v,ex,g,q2⟩=> ?_)
 subst ex
 obtain rfl:u=Value.ref a:=rx
 exact⟨Lx I2 g,QG hu I2 g ry fun w' s3 I3 rw'=>⟨v,H2,I3,rw',q2⟩⟩
theorem Qat(hu:X.A.units+1<cLine)(hi:PE X i ty)(ho:PE X o td):PC X .In i o (QbI ty td):=by
 intro c7 s σ H Q I h
 refine P0 (hi c7 s σ H _ I h) fun iv s1 ⟨y,H1,I1,ry,q1⟩=>P0 (ho c7 s1 σ H1 _ I1 q1) fun u s2 ⟨x,H2,I2,rx,a,ov,ex,g,q2⟩=> ?_
 subst ex
 obtain rfl:u=Value.ref a:=rx
 exact Qdp hu I2 g ry fun s3 I3=>⟨.bl ov.isSome,H2,I3,rfl,q2⟩
theorem CQ(hu:X.A.units+1<cLine)(ho:PE X o td)(hi:PE X i ty)(hv:PE X value tv)(hs:swapsWith value (some (.Subscript o i pos')) pos.line X.env=pure false):
  PS X (.Assign [.Subscript o i pos'] value pos) (EY td ty tv):=by
 intro c7 s σ H D I h
 refine wpAny_Assign_Subscript (P0 (hv c7 s σ H _ I h) fun r s1 ⟨v,H1,I1,rv,q1⟩=>P0 (ho c7 s1 σ H1 _ I1 q1) fun u s2 ⟨x,H2,I2,rx,q2⟩=>P0 (hi c7 s2 σ H2 _ I2 q2) fun iv s3 ⟨y,H3,I3,ry,a,H4,ex,g,q3⟩=> ?_) hs
 subst ex
 obtain rfl:u=Value.ref a:=rx
 exact QF hu I3 g ry rv fun s4 I4=>⟨σ,H4,I4,q3⟩
end
theorem UR{P:Program}{w:World}{H:Hp}(h:Heap)(hb:sysModules<h.objs.size):J4 P w H (h.push {cls:= .type "dict",data:= .dict #[]}) h.objs.size (.dK []):=
 ⟨x5 _,QR.mpr (Y4 (M7 hb)),[], .nil,Heap.DictOf.new h⟩
theorem UN{P:Program}{w:World}{H:Hp}(h:Heap)(hb:sysModules<h.objs.size):J4 P w H (h.push {cls:= .type "dict",data:= .dict #[]}) h.objs.size (.dT []):=
 ⟨x5 _,QR.mpr (Y4 (M7 hb)),[], .nil,_,#[],0,W8 _ rfl,⟨rfl,rfl,rfl⟩,rfl,rfl,AF⟩
def Y5:TE:=fun _ H Q=>∀p,H p=none->Q (.ref p) (upd H p (.dK []))
def II:TE:=fun _ H Q=>∀p,H p=none->Q (.ref p) (upd H p (.dT []))
section
variable {X:Cx} {pos:Pos}
theorem R7:PE X (.Dict [] [] pos) Y5:=fun c7 s σ H Q I h=>
 wpAny_Dict_empty ⟨.ref s.heap.objs.size,_,I.laid (a:=s.heap.objs.size) (o:= .dK []) (t':=s.toks) (fun _ _ q=>Q2 _ q) (l9 _) (UR s.heap I.big),rfl,h _ (I.hok.fresh (l9 _))⟩
theorem FX:PE X (.Dict [] [] pos) II:=fun c7 s σ H Q I h=>
 wpAny_Dict_empty ⟨.ref s.heap.objs.size,_,I.laid (a:=s.heap.objs.size) (o:= .dT []) (t':=s.toks) (fun _ _ q=>Q2 _ q) (l9 _) (UN s.heap I.big),rfl,h _ (I.hok.fresh (l9 _))⟩
end
structure M1(X:Cx)(o:Expr)(m:Str)(apos:Pos)(e:Expr)(cpos:Pos):Prop where
 base:attributeBase o m X.env (eval o X.env)=eval o X.env
 few:((backTo cpos (starEach [e] X.env)).all (fun x=> !x.1)&&(backToKw cpos (keywordEach [] X.env)).all (fun x=>x.1.isSome)
  &&decide (([e]:List Expr).length+([]:List Keyword).length+(if ([]:List Keyword).isEmpty then 0 else 1)<30))=true
 line:(apos.endLine==cpos.line)=true
 trees:backTo cpos (starEach [e] X.env)=[(false,eval e X.env)]
structure M2(X:Cx)(o:Expr)(m:Str)(apos:Pos)(e f:Expr)(cpos:Pos):Prop where
 base:attributeBase o m X.env (eval o X.env)=eval o X.env
 few:((backTo cpos (starEach [e,f] X.env)).all (fun x=> !x.1)&&(backToKw cpos (keywordEach [] X.env)).all (fun x=>x.1.isSome)
  &&decide (([e,f]:List Expr).length+([]:List Keyword).length+(if ([]:List Keyword).isEmpty then 0 else 1)<30))=true
 line:(apos.endLine==cpos.line)=true
 trees:backTo cpos (starEach [e,f] X.env)=[(false,eval e X.env),(false,eval f X.env)]
def IsD(H:Hp)(a:Addr):Prop:=(∃kvs,Rd H a (.dK kvs))\/∃kvs,Rd H a (.dT kvs)
theorem Ul{X:Cx}{c7:List (Addr×Obj)}{σ:St}{H:Hp}{s:Shared}{a:Addr}(I:Inv X c7 σ H s)(d:IsD H a):
  s.TypeIs (.ref a) "dict"/\(∀b,Value.ref a= .ref b->∃ob,s.heap.get? b=some ob/\ob.dict=none)/\(a==sysModules)=false:=by
 rcases d with ⟨kvs,e⟩|⟨kvs,e⟩
 ·obtain⟨_,hd,vs,_,dd⟩:=Gx I.hok e
  refine⟨dd.typeIs,fun b q=> ?_,hd⟩
  cases q
  obtain⟨ob,_,_,h1,h2,_⟩:=dd
  exact⟨ob,h1,h2.2.1⟩
 ·obtain⟨_,hd,xs,_,dd⟩:=Ii I.hok e
  refine⟨dd.typeIs,fun b q=> ?_,hd⟩
  cases q
  obtain⟨ob,_,_,h1,h2,_⟩:=dd
  exact⟨ob,h1,h2.2.1⟩
section
variable {X:Cx} {c7:List (Addr×Obj)} {σ:St} {H:Hp} {s:Shared} {a:Addr} {y d:V} {u r:Value} {o:Option V} {A:Around} {E:Value->Shared->Prop}
theorem Qbp{Q:Value->Shared->Prop}(hu:A.units+1<cLine)(I:Inv X c7 σ H s)(g:BO H a y o)(ry:RelV y u)(rd:RelV d r)(h:∀w' s',Inw X c7 σ H s'->RelV (o.getD d) w'->Q w' s'):
  wpAny (model X.prog X.w) A (call (.builtin "dict.get") [.ref a,u,r]) Q E s:=by
 rcases g with ⟨kvs,k,e,ey,l⟩|⟨kvs,k,b,e,ey,eb,l⟩
 ·subst ey
  obtain⟨z,hd,vs,rel,dd⟩:=Gx I.hok e
  refine ET NB dd.typeIs VM (VL _ _ _) (meets_dict_get_default (A3 X.prog X.w) a (Ib ry) hd r) ⟨_,dd.mapOf,h _ _ (I.tok _) ?_⟩
  rw[l]
  exact(rel.val k).getD rd
 ·subst ey
  cases (show u=Value.ref b from ry)
  obtain⟨z,hd,xs,rel,dd⟩:=Ii I.hok e
  refine ET NB dd.typeIs VM (VL _ _ _) (meetsH_dict_get_default (tupleKind (A3 X.prog X.w)) a b hd r) ⟨JS hu,k,xs,Ge I.hok eb,dd,h _ _ (I.tok _) ?_⟩
  rw[l]
  exact(rel.val k).getD rd
end
def Dk(td ty tx:TE):TE:=fun σ H Q=>td σ H fun x H1=>∃a,x= .ref a/\IsD H1 a/\ty σ H1 fun y H2=>tx σ H2 fun z H3=>∃o,BO H3 a y o/\Q (o.getD z) H3
section
variable {X:Cx} {o e f:Expr} {apos cpos:Pos} {td ty tx:TE}
theorem Ax(hu:X.A.units+1<cLine)(ho:PE X o td)(he:PE X e ty)(hf:PE X f tx)(m:M2 X o "get" apos e f cpos):PE X (.Call (.Attribute o "get" apos) [e,f] [] cpos) (Dk td ty tx):=by
 intro c7 s σ H Q I h
 refine wpAny_Call_method m.base m.few m.line JR NB PySem.F.type_dict_get (P0 (ho c7 s σ H _ I h) fun u s1 ⟨x,H1,I1,rx,a,ex,d,q1⟩=> ?_)
 subst ex
 obtain rfl:u=Value.ref a:=rx
 obtain⟨t1,t2,_⟩:=Ul I1 d
 refine⟨t1,t2,?_⟩
 rw[m.trees]
 refine Pj rfl (Vc (Fd (P0 (he c7 s1 σ H1 _ I1 q1) fun iv s2 ⟨y,H2,I2,ry,q2⟩=>
  Fd (P0 (hf c7 s2 σ H2 _ I2 q2) fun fv s3 ⟨z,H3,I3,rz,ov,g,q3⟩=>Pp ?_))))
 exact Qbp hu I3 g ry rz fun w' s4 I4 rw'=>⟨_,H3,I4,rw',q3⟩
end
section
variable {X:Cx} {c7:List (Addr×Obj)} {σ:St} {H:Hp} {s:Shared} {a:Addr} {kvs:List (D7×V)} {A:Around} {E:Value->Shared->Prop}
end
section
variable {X:Cx} {c7:List (Addr×Obj)} {σ:St} {H:Hp} {s:Shared} {a:Addr} {y:V} {u:Value} {A:Around} {E:Value->Shared->Prop}
end
section
variable {X:Cx}
theorem CZ:Ae X (.builtin "len") (fun xs H Q=>∃a kvs,xs=[V.ref a]/\H a=some (.dK kvs)/\Q (.int kvs.length) H):=by
 intro c7 s σ H xs us Q I r h
 obtain⟨a,kvs,rfl,ha,q⟩:=h
 obtain⟨u,rfl,ru⟩:=vals1 r
 cases ru
 exact Qc4 I (.inl ha) fun t s' I'=>⟨.int kvs.length,H,I',⟨t,rfl⟩,q⟩
end
section
variable {κ:Type} [DecidableEq κ]
theorem NN{kvs:List (κ×V)}{k:κ}{v:V}(h:C7 kvs k=some v):k∈kvs.map (·.1):=by
 have q:(kvs.any fun kv=>decide (kv.1=k))=true:=by
  rw[Bl,h]
  all_goals rfl
 obtain⟨p,hp,e⟩:=List.any_eq_true.mp q
 exact y9.mpr ⟨p,hp,A2 e⟩
end
section
variable {X:Cx} {c7:List (Addr×Obj)} {σ:St} {H:Hp} {s:Shared} {a:Addr} {A:Around} {E:Value->Shared->Prop}
theorem JC{kvs:List (D7×V)}{k:D7}{v:V}{u r:Value}{Q:Value->Shared->Prop}(I:Inv X c7 σ H s)(e:H a=some (.dK kvs))(hl:kvs.length<sizeLine)(ry:RelV (kV k) u)(rv:RelV v r)
  (h1:∀x w' s',C7 kvs k=some x->Inw X c7 σ H s'->RelV x w'->Q w' s')(h2:C7 kvs k=none->∀s',Inw X c7 σ (upd H a (.dK (Q3 kvs k v))) s'->Q r s'):wpAny (model X.prog X.w) A (call (.builtin "dict.setdefault") [.ref a,u,r]) Q E s:=by
 obtain⟨z,hd,vs,rel,dd⟩:=Fc I.hok e
 have rl:=rel.val k
 refine ET F.slot_dict_setdefault dd.typeIs F.entry_dict_setdefault (F.args_dict_setdefault_3 _ _ _) (kt_meets_setdefault (A3 X.prog X.w) a (Ib ry) hd r) ⟨vs,dd,by rw[<-rel.length];exact z,fun x hx=> ?_,fun hn h' dd' hs=> ?_⟩
 ·rw[hx] at rl
  cases hv:C7 kvs k with
  |none=>rw[hv] at rl;exact False.elim rl
  |some y=>
   rw[hv] at rl
   exact h1 y x _ hv (I.tok _) rl
 ·rw[hn] at rl
  cases hv:C7 kvs k with
  |some y=>rw[hv] at rl;exact False.elim rl
  |none=>
   have hl':(Q3 kvs k v).length<=sizeLine:=by have:=W7 kvs k v;omega
   have he:∃q,h'.get? a=some q:=let ⟨q,_,_,hq,_⟩:=dd';⟨q,hq⟩
   exact h2 hv _ (JB (t':=s.toks+1) I (by rw[e];exact True.intro) hs he (UQ hl' hd (rel.put k rv) dd'))
end
def Es(td ty tx:TE):TE:=fun σ H Q=>td σ H fun x H1=>∃a,x= .ref a/\IsD H1 a/\ty σ H1 fun y H2=>tx σ H2 fun z H3=>∃kvs k,H3 a=some (.dK kvs)/\y=kV k/\kvs.length<sizeLine/\
 (∀v,C7 kvs k=some v->Q v H3)/\(C7 kvs k=none->Q z (upd H3 a (.dK (Q3 kvs k z))))
theorem Cr{X:Cx}{o e f:Expr}{td ty tx:TE}{apos cpos:Pos}(ho:PE X o td)(he:PE X e ty)(hf:PE X f tx)(m:M2 X o "setdefault" apos e f cpos):PE X (.Call (.Attribute o "setdefault" apos) [e,f] [] cpos) (Es td ty tx):=by
 intro c7 s σ H Q I h
 refine wpAny_Call_method m.base m.few m.line JR PySem.F.slot_dict_setdefault PySem.F.type_dict_setdefault (P0 (ho c7 s σ H _ I h) fun u s1 ⟨x,H1,I1,rx,a,ex,d,q1⟩=> ?_)
 subst ex
 obtain rfl:u=Value.ref a:=rx
 obtain⟨t1,t2,_⟩:=Ul I1 d
 refine⟨t1,t2,?_⟩
 rw[m.trees]
 refine Pj rfl (Vc (Fd (P0 (he c7 s1 σ H1 _ I1 q1) fun iv s2 ⟨y,H2,I2,ry,q2⟩=>
  Fd (P0 (hf c7 s2 σ H2 _ I2 q2) fun fv s3 ⟨z,H3,I3,rz,kvs,k,ea,ey,hl,g1,g2⟩=>Pp ?_))))
 subst ey
 exact JC I3 ea hl ry rz (fun x w' s4 hv I4 rw'=>⟨x,H3,I4,rw',g1 x hv⟩) fun hv s4 I4=>⟨z,_,I4,rz,g2 hv⟩
def Itd(d:Addr)(o:Obj)(kvs:List (D7×V)):It:=⟨fun i H=>i<kvs.length/\H d=some (.frz o (.dK kvs)),fun i H x H'=>H'=H/\∃k v,kvs[i]? =some (k,v)/\x=kV k,fun i H=>kvs.length<=i/\H d=some (.frz o (.dK kvs))⟩
theorem Jv{P:Program}{w:World}{H:Hp}{h:Heap}{d:Addr}{o:Obj}{kvs:List (D7×V)}(k:DF P w H h)(e:H d=some (.frz o (.dK kvs))):h.get? d=some o/\(d==sysModules)=false/\∃vs ep es,o.data= .dict es ep/\KV kvs vs/\h.DictAt (A3 P w) d vs ep:=by
 obtain⟨g1,_,g2,vs,rel,o',es,ep,g3,g4,g5,r⟩:=(show J4 P w H h d (.frz o (.dK kvs)) from k d _ e)
 rw[g1] at g3
 cases g3
 exact⟨g1,g2,vs,ep,es,g5,rel,o,es,g1,g4,g5,r⟩
theorem S8{kvs:List (D7×V)}{vs:List (D7×Value)}(r:KV kvs vs):kvs.length=vs.length:=r.length
theorem MU{P:Program}{w:World}{k:D7}{u:Value}(h:(A3 P w).is k u=true):RelV (kV k) u:=by
 rw[MN] at h
 rcases J9 h with ⟨i,t,rfl,rfl⟩|⟨x,t,rfl,rfl⟩
 ·exact⟨t,rfl⟩
 ·exact⟨t,rfl⟩
theorem E4{kvs:List (D7×V)}{vs:List (D7×Value)}(r:KV kvs vs){i:Nat}{k:D7}{v:Value}(h:vs[i]? =some (k,v)):∃y,kvs[i]? =some (k,y):=by
 unfold KV at r
 induction r generalizing i with
 |nil=>simp at h
 |cons a _ ih=>
  cases i with
  |zero=>
   simp at h
   rename_i p q _ _ _
   refine⟨p.2,?_⟩
   simp
   have e:=a.1
   rw[h] at e
   exact Prod.ext e rfl
  |succ i=>simpa using ih (by simpa using h)
theorem PL{P:Program}{w:World}{K:n9}{tg:Expr}(d it:Addr)(o:Obj)(kvs:List (D7×V)){es:Array DictEntry}{ep:Nat}(hd:o.data= .dict es ep):Turn P w K tg (Itd d o kvs) [it] it (fun i h=>h.IsKeyIter it d i kvs.length ep) where
 mem:=by simp
 obj:=fun i h st b hb=>by
  have e:b=it:=by simpa using hb
  subst e
  obtain⟨o,e,c,d⟩:=st
  exact⟨o,e,fun v z=>by rw[d] at z;cases z⟩
 keep:=fun i h h' st k=>st.at fun o e=>k it (by simp) o e
 item:=by
  intro X hP hw hK hc i c7 s σ H E I hf st hg
  subst hP hw hK
  obtain⟨hi,hfz⟩:=hg
  obtain⟨g1,g2,vs,ep',es',e1,rel,da⟩:=Jv I.hok hfz
  rw[hd] at e1
  cases e1
  have hl:=S8 rel
  obtain⟨f0,f1,f2,f3,f4,f5⟩:=hf it (by simp)
  have hx:vs[i]? =some (vs[i]'(by omega)):=u9 _
  obtain⟨y,hy⟩:=E4 rel (k:=(vs[i]'(by omega)).1) (v:=(vs[i]'(by omega)).2) hx
  rw[hl] at st
  refine wpAny_pyNext_dict_item (k:=(vs[i]'(by omega)).1) (v:=(vs[i]'(by omega)).2) st da hx fun key h' hk st' sb=> ?_
  have I1:Inw X c7 σ H {s with heap:=h'}:=I.turned (t':=s.toks) (fun b o hb e=>(sb.2 b hb).trans e) f0 f1 f3 f4 f5
  obtain⟨o2,e2,c2,d2⟩:=id st'
  rw[<-hl] at st'
  exact⟨key,rfl,Lq (s:={s with heap:=h'}) e2 c2 d2 (by decide) ⟨_,H,I1,MU hk,⟨rfl,_,y,hy,rfl⟩,st',fun b hb=>(hf b hb).1⟩⟩
 done:=by
  intro X hP hw hK hc i c7 s σ H E I hf st hg
  subst hP hw hK
  obtain⟨hi,hfz⟩:=hg
  obtain⟨g1,g2,vs,ep',es',e1,rel,da⟩:=Jv I.hok hfz
  rw[hd] at e1
  cases e1
  have hl:=S8 rel
  rw[hl] at st
  obtain⟨f0,f1,f2,f3,f4,f5⟩:=hf it (by simp)
  exact wpAny_pyNext_dict_end (I.ok.hd hc) st da (CJ (by omega)) fun h' eb=>⟨rfl,I.turned (t':=s.toks) (fun b o hb e=>eb b o hb e) f0 f1 f3 f4 f5⟩
 self:=fun _ _ _ _ _ st h=>wpAny_pyIter_keyiter st h
def OR(tl:TE):TI:=fun σ H R=>tl σ H fun x H1=>∃d kvs,x= .ref d/\H1 d=some (.dK kvs)/\∀o,R (Itd d o kvs) (upd H1 d (.frz o (.dK kvs)))
theorem Je{X:Cx}{tg l:Expr}{tl:TE}(hl:PE X l tl):PI X tg l (OR tl):=by
 intro c7 s σ H R I h
 refine P0 (hl c7 s σ H _ I h) fun v s1 ⟨x,H1,I1,r1,q1⟩=> ?_
 obtain⟨d,kvs,e,hd,q⟩:=q1
 subst e
 cases r1
 obtain⟨z,hsm,vs,rel,o,es,ep,g1,g2,g3,g4⟩:=Fc I1.hok hd
 have lt:d<s1.heap.objs.size:=O9 g1
 have da:s1.heap.DictAt (A3 X.prog X.w) d vs ep:=⟨o,es,g1,g2,g3,g4⟩
 refine wpAny_pyIter_dict hsm da ?_
 have J:Inw X c7 σ (upd H1 d (.frz o (.dK kvs))) s1:=I1.write (x:=d) (e:=d) (t':=s1.toks) (by rw[hd];exact True.intro) (.inl rfl) (fun b u _ z=>z) ⟨o,g1⟩ ⟨g1,z,hsm,vs,rel,o,es,ep,g1,g2,g3,g4⟩
 have E2:vs.length=kvs.length:=(S8 rel).symm
 refine⟨s1.heap.objs.size,[s1.heap.objs.size],_,_,_,rfl,J.kept (t':=s1.toks) fun b o e=>Q2 _ e,PL d _ o kvs g3,⟨_,W8 _ rfl,rfl,by rw[E2];rfl⟩,fun b hb=> ?_,q o⟩
 have e:b=s1.heap.objs.size:=by simpa using hb
 subst e
 exact J.fpOk (l9 _) (J.hok.fresh (l9 _))
theorem EJ{g:TG}{tb:TS}{D:Ends}{σ:St}{H:Hp}{d:Addr}{o:Obj}{kvs:List (D7×V)}(Pv:Nat->St->Hp->Prop)(h0:Pv 0 σ H)(hf:∀i σ H,Pv i σ H->H d=some (.frz o (.dK kvs)))
  (hs:∀i k v σ H,kvs[i]? =some (k,v)->Pv i σ H->g (kV k) σ H fun σ2 H2=>tb {D with nx:=Pv (i+1),ct:=Pv (i+1),bk:=D.nx} σ2 H2)(hd:∀σ H,Pv kvs.length σ H->D.nx σ H):NJ g tb D σ (Itd d o kvs) H:=by
 refine⟨fun i m σ H=>m=kvs.length-i/\i<=kvs.length/\Pv i σ H,⟨kvs.length,by simp,x5 _,h0⟩,?_⟩
 rintro i m σ H ⟨rfl,hi,p⟩
 by_cases T8:i<kvs.length
 ·refine .inr ⟨⟨T8,hf i σ H p⟩,Pv (i+1),fun σ' H' p'=>⟨kvs.length-(i+1),by omega,rfl,T8,p'⟩,fun x H' y=> ?_⟩
  obtain⟨e,k,v,hk,y⟩:=y
  subst e y
  exact hs i k v σ _ hk p
 ·have e:i=kvs.length:=by omega
  subst e
  exact .inl ⟨⟨l9 _,hf _ σ H p⟩,hd σ H p⟩
def Ko:List Expr->Option (List Str)
 |[]=>some []
 | .Constant (.str z) _ _::r=>match Ko r with
  |some zs=>some (z::zs)
  |none=>none
 |_=>none
theorem Oz{X:Cx}{es:List Expr}:∀{zs:List Str},Ko es=some zs->PA X es (fun _ H Q=>Q (zs.map V.str) H):=by
 induction es with
 |nil=>
  intro zs h
  cases h
  exact c8
 |cons x r ih=>
  intro zs h
  cases x with
  |Constant c k ps=>
   cases c with
   |str z=>
    rw[Ko] at h
    cases e:Ko r with
    |none=>rw[e] at h;cases h
    |some ys=>
     rw[e] at h
     cases h
     exact c4 (te:=fun _ H Q=>Q (.str z) H) A5 (ih e) rfl
   |_=>cases h
  |_=>cases h
theorem Qf{X:Cx}{i:Nat}{x:Str}{es:List Expr}{zs:List Str}{pos pos' pl:Pos}(hN:X.N.Nodup)(hi:X.N[i]? =some x)(hx:Loc X.env.scope x)(hz:Ko es=some zs)
  (hs:swapsWith (.List es pl) (some (.Name x pos')) pos.line X.env=pure false)(hf:X.fn x=true\/X.env.scope.names.lookup x=some .local):PS X (.Assign [.Name x pos'] (.List es pl) pos) (PP (RI (fun _ H Q=>Q (zs.map V.str) H)) (BU i)):=
 i8 hN hi hx (@B4 _ _ _ _ (@Oz _ _ _ hz)) hs hf
theorem Qb7{X:Cx}{st:Stmt}{Av:List Stmt}{t u:TS}(h1:PS X st t)(h2:Mb X Av u):Mb X (st::Av) (Wm t u):=c6 h1 h2
section
variable {X:Cx}
theorem FI:∀{zs:List Str} {us:List Value},StrsAre us zs->y7 (zs.map V.str) us
 |_,_, .nil=> .nil
 |_,_, .cons y t h=> .cons ⟨t,rfl⟩ (FI h)
section
variable {g:TG} {ti:TT} {te:TE} {Q:VK} {σ:St} {H:Hp} {pick:List (Option Nat)} {K:n9} {a:Addr}
end
end
section
variable {X:Cx} {tg:Expr}
end
section
variable {X:Cx}
end
structure LamScope(x y:Str)(sc:Scope):Prop where
 kind:sc.kind= .function
 co:sc.isCoroutine=false
 gen:sc.isGenerator=false
 ne:y≠x
 par:sc.names.lookup y=some .local
 fre:sc.names.lookup x=some .free
 nocell:∀z∈sc.names,z.2≠ .cell
 only:∀z,sc.names.lookup z=some .free->z=x
section
variable {X:Cx} {CX:Mc} {k:Nat} {f:Addr} {fd:FuncData} {ps:List Str} {sp:Sp} {dvs:List V} {ds:List Value} {E:XK}
end
section
variable {X:Cx} {CX:Mc} {k:Nat} {f:Addr} {fd:FuncData} {ps:List Str} {E:XK}
end
section
variable {X:Cx}
end
structure KD(P:Program)(w:World)(K:n9)(d:Addr)(kvs:List (D7×V)):Prop where
 ex:∃(o:Obj) (es:Array DictEntry) (ep:Nat) (vs:List (D7×Value)),K.lookup d=some o/\o.ExactDict/\o.data= .dict es ep/\PySem.KeysOf (A3 P w) es/\PySem.Pairs (A3 P w) es.toList vs/\(vs.map (·.1)).Nodup/\KV kvs vs
 sm:(d==sysModules)=false
section
variable {X:Cx} {d:Addr} {kvs:List (D7×V)}
end
section
variable {X:Cx}
end
section
variable {X:Cx}
theorem WK:DE X (binaryOp .Mult) (fun x y H Q=>∃z n,x= .str z/\y= .int n/\(0<=n/\n<=1000/\0<z.length/\z.length<=100)/\∀r:Str,r.cps.toList=(List.replicate n.toNat z.cps.toList).flatten->Q (.str r) H):=by
 intro c7 s σ H x y v u Q I rx ry h
 obtain⟨z,n,rfl,rfl,⟨h1,h2,h3,h4⟩,q⟩:=h
 rcases(show n=0\/n=1\/1<n by omega) with rfl|rfl|hn
 ·obtain⟨t,rfl⟩:=rx
  obtain⟨t',rfl⟩:=ry
  exact P.mul_str_none (by decide) (by decide) ⟨.str _,H,I.tok _,⟨_,rfl⟩,q _ rfl⟩
 ·obtain⟨t,rfl⟩:=rx
  obtain⟨t',rfl⟩:=ry
  refine P.mul_str (by decide) (fun _ e=>by simp at e) (fun _ e=>by simp at e) ?_
  rw[if_neg (by decide),if_pos (by simp)]
  exact⟨.str z,H,I,⟨_,rfl⟩,q _ (by simp)⟩
 ·exact WL c7 s σ H _ _ v u Q I rx ry ⟨z,n,rfl,rfl,⟨hn,h2,h3,h4⟩,q⟩
end
section
variable {H:Hp}
end
theorem FJ{x:Str}{p:Pos}{es:List Expr}{env:Env}:starEach (Expr.Name x p::es) env=(false,eval (Expr.Name x p) env)::starEach es env:=rfl
theorem Zt{a b:Expr}{p:Pos}{es:List Expr}{env:Env}:starEach (Expr.Subscript a b p::es) env=(false,eval (Expr.Subscript a b p) env)::starEach es env:=rfl
section
variable {X:Cx}
theorem Qh{CX:Mc}{k i iy:Nat}{f:Addr}{fd:FuncData}{ps:List Str}{sp:Sp}{E:XK}{x y g:Str}{n1 n2:Int}{j1 j2:Nat}{px py pg p1 p2 cpos pos:Pos}
  (F:FnOk X.prog X.w X.K X.mg X.base CX k f fd ps sp)(hr:Room k X.A)(hg:Gl X g)(hm:X.mg g=some (.ref f))(hk:PySem.W.keepIn X.K (.ref f)=true)(hb:Binds X.K fd ps [])(hx:BM CX X E)
  (hN:X.N.Nodup)(hi:X.N[i]? =some x)(De:Loc X.env.scope x)(hy:X.N[iy]? =some y)(LX:X.env.scope.names.lookup y=some .local)(hdy:(y==("__debug__":Str))=false:=by decide)(Nb:(g==("__debug__":Str))=false:=by decide)
  (hs:swapsWith (.Call (.Name g pg) [.Name y py, .Constant (.int n1) j1 p1, .Constant (.int n2) j2 p2] [] cpos) (some (.Name x px)) pos.line X.env=pure false:=by rfl)
  (hf:X.fn x=true\/X.env.scope.names.lookup x=some .local:=by first|exact .inl rfl|exact .inr rfl|assumption):
  PSW X (.Assign [.Name x px] (.Call (.Name g pg) [.Name y py, .Constant (.int n1) j1 p1, .Constant (.int n2) j2 p2] [] cpos) pos)
   (fun D σ H=>∃v,σ[iy]? =some (some v)/\sp [v, .int n1, .int n2] H (fun u H'=>D.nx (σ.set i (some u)) H') E):=by
 intro c7 s σ H D I h
 obtain⟨v,hv,h⟩:=h
 obtain⟨m,hn,hl⟩:=I.loc
 obtain⟨u,ru,lk⟩:=hl iy y v hy hv (.inl LX)
 have hmy:m y=some u:=by
  rcases lk with ⟨_,e⟩|⟨k,_⟩
  ·exact e
  ·rcases k with k|k
   ·rw[show X.env.kindOf y=some .local from LX] at k;cases k
   ·rw[show X.env.kindOf y=some .local from LX] at k;cases k
 refine wpAny_Assign_Name ?_ hs
 refine Is (Vj I.ok.kind hg (YZ (by rw[I.ok.glob];exact I.mod.glob.keeps I.bk) hm ?_) Nb)
 refine Po (h₀:=X.base) I.ok.mod.kin hk ?_ rfl rfl
 refine Fd (Ps (pos:=py) (Vl I.ok.kind LX hn hmy ?_) hdy)
 refine Fd (Vk (k:=j1) (pos:=p1) ?_)
 refine Fd (Vk (k:=j2) (pos:=p2) ?_)
 refine Pp ?_
 have I1:Inv X c7 σ H {s with toks:=s.toks+1+1}:=⟨I.tok _,Nat.succ_pos _⟩
 refine⟨I1.kIn,?_⟩
 refine Ki (s:={s with toks:=s.toks+1+1}) I1.pos (FT (dvs:=[]) (vs:=[v, .int n1, .int n2]) F hr hb .nil hx I1 (.cons ru (.cons ⟨_,rfl⟩ (.cons ⟨_,rfl⟩ .nil))) h) fun w s2 z2 ⟨y2,H2,I2,r2,q2⟩=> ?_
 exact W6 z2 (DO I2 hN hi De r2 (fun s3 I3 z3=>⟨_,H2,⟨I3,z3⟩,q2⟩) hf)
end
section
variable {prog:Program} {w:World} {A:Around} {E:Value->Shared->Prop} {s:Shared} {T:String} {r d:Addr} {n:Nat} {P:Nat->Value->Prop} {OK:Heap->Prop}
theorem LB{Q:List Value->Shared->Prop}(K:PySem.W.KdlSrc prog w T r d n P OK)(hh:A.handled=none)(hok:OK s.heap)(hn:n<=sizeLine)
  (q:∀h' tk AW,s.heap.objs.size<h'.objs.size->(∀b o,s.heap.get? b=some o->h'.get? b=some o)->ItemsOf P AW n->Q AW.toList {s with heap:=h',toks:=tk}):wpAny (model prog w) A (collect (.ref r)) Q E s:=by
 obtain⟨t1,t2⟩:=K.there s.heap hok
 unfold collect
 refine x6 (wpAny_runValue (codeAny_builtin PySem.F.entry_proto_collect ?_))
 rw[Around.under_plainId PySem.F.plain_proto_collect _]
 refine x6 (m:=newList []) (wpAny_newObj_type (J3 ⟨plainId_quiet VJ _,codeAny_builtin PySem.F.entry_list_iadd ?_⟩))
 rw[Around.under_plainId VJ _]
 have g0:(s.heap.push {cls:= .type "list",data:= .seq ([]:List Value).toArray}).get? s.heap.objs.size=some {cls:= .type "list",data:= .seq #[]}:=W8 _ rfl
 show wpAny _ A.in1 (Builtin.List.listExtendWith (.ref s.heap.objs.size) (.ref r) (.ref s.heap.objs.size)) _ _ _
 refine U2 (PySem.W.kdl_extend (s:={s with heap:=s.heap.push {cls:= .type "list",data:= .seq ([]:List Value).toArray}}) (R:=fun p s'=>∃(h':Heap) (tk:Nat) (AW:Array Value) (c:Nat),p= .ok (.ret (.ref s.heap.objs.size))/\s'={s with heap:=h',toks:=tk}/\
   (∀b o,s.heap.get? b=some o->h'.get? b=some o)/\h'.get? s.heap.objs.size=some {cls:= .type "list",dict:=none,data:= .seq AW c,slots:= #[]}/\ItemsOf P AW n) K (by first|exact hh|simpa using hh) (K.keep _ _ hok fun b _ o e=>Q2 _ e) s.heap.objs.size (Iw t1) (Iw t2) (.ref s.heap.objs.size) 0 g0
   (fun h' tk AW c hk hS UD=>⟨h',tk,AW,c,rfl,rfl,fun b o e=>hk b o (M7 (O9 e)) (Q2 _ e),hS,UD⟩) hn) (fun fin s' x=> ?_) fun e s' x=> ?_
 ·have fin1:∀(p:Result) (s2:Shared),(∃(h':Heap) (tk:Nat) (AW:Array Value) (c:Nat),p= .ok (.ret (.ref s.heap.objs.size))/\s2={s with heap:=h',toks:=tk}/\(∀b o,s.heap.get? b=some o->h'.get? b=some o)/\h'.get? s.heap.objs.size=some {cls:= .type "list",dict:=none,data:= .seq AW c,slots:= #[]}/\ItemsOf P AW n)->
    wpAny (model prog w) A (load s.heap.objs.size>>=fun o=>match o.data with| .seq xs _=>pure xs.toList|_=>unsupported "internal:collect") Q E s2:=by
   rintro p s2 ⟨h',tk,AW,c,_,rfl,hk,hS,UD⟩
   exact x6 (wpAny_load hS (J3 (q h' tk AW (O9 hS) hk UD)))
  cases fin with
  |done f=>
   have x0:=x
   obtain⟨h',tk,AW,c,e,_⟩:=x
   cases e
   exact fin1 _ _ x0
  |again c1=>
   refine⟨x.1,LK x.2 fun p s2 y=> ?_⟩
   have y0:=y
   obtain⟨h',tk,AW,c,rfl,_⟩:=y
   exact fin1 _ _ y0
 ·obtain⟨_,_,_,_,e',_⟩:=x
  cases e'
end
section
variable {X:Cx}
theorem ON{kvs:List (D7×V)}{vs:List (D7×Value)}(r:KV kvs vs):vs.map (·.1)=kvs.map (·.1):=by
 apply NF
 intro i
 rw[u8,u8]
 cases hi:vs[i]? with
 |none=>
  have:=VI.mp hi
  rw[<-S8 r] at this
  rw[CJ this];rfl
 |some p=>
  obtain⟨y,hy⟩:=E4 r (i:=i) (k:=p.1) (v:=p.2) hi
  rw[hy];rfl
end
section
variable {X:Cx}
end
section
variable {X:Cx}
end
section
variable {g:TG} {ti:TT} {te:TE} {Q:VK} {σ:St} {H:Hp} {pick:List (Option Nat)} {tb:TS} {D:Ends} {K:n9} {a:Addr}
end
section
variable {prog:Program} {w:World} {A:Around} {E:Value->Shared->Prop} {s:Shared}
end
section
variable {X:Cx}
end
end L2
namespace TS
section
open PySem PyProof.Rows
open Lean in
local macro_rules
 | `(nomatch $n:num)=>return mkIdent (((((`_private.PySem.Builtin.List.W1All).num 0).str "PySem").str "Builtin").str (["gallop","mergeLo","mergeHi","setMinGallop"].getD n.getNat ""))
abbrev SM:=StateT SortSt Sem
def gal:Bool->Keyed->Array Keyed->Nat->Nat->Nat->SM (Option Nat):=nomatch 0
def mlo:Array Keyed->Array Keyed->SM (Array Keyed):=nomatch 1
def mhi:Array Keyed->Array Keyed->SM (Array Keyed):=nomatch 2
def smg:Nat->SM Unit:=nomatch 3
variable {κ:KeyKind} {kd:SortKind} {prog:Program} {w:World} {A:Around} {E:Value->Shared->Prop} {s:Shared}
def ky(κ:KeyKind)(p:Keyed):κ.α:=(κ.keyOf p.1).getD κ.dflt
def Fj(κ:KeyKind)(p:Keyed):Prop:=∃a,κ.keyOf p.1=some a
theorem C5{arr:Array Keyed}{i:Nat}{p:Keyed}{Q:Keyed->SortSt->Prop}{st:SortSt}(h:arr[i]? =some p)(q:Q p st):wpS (model prog w) A E s (elem' arr i) Q st:=by
 rw[elem'_eq,h]
 exact j4 q
def EV(κ:KeyKind)(kd:SortKind)(prog:Program)(w:World)(A:Around)(s:Shared):Prop:=∀(E:Value->Shared->Prop) (x y:Value) (a b:κ.α) {Q:Bool->Shared->Prop},κ.keyOf x=some a->κ.keyOf y=some b->Q (κ.blt a b) s->wpAny (model prog w) A (keyLt' kd x y) Q E s
theorem Ke(ho:EV κ kd prog w A s){st:SortSt}{x y:Keyed}{Q:Option Bool->SortSt->Prop}(hk:kindOf st=kd)(hx:Fj κ x)(hy:Fj κ y)(q:Q (some (κ.blt (ky κ x) (ky κ y))) st):wpS (model prog w) A E s (lt' x y) Q st:=by
 obtain⟨a,ha⟩:=hx
 obtain⟨b,hb⟩:=hy
 rw[lt'_eq]
 refine j8 (Bi ?_)
 rw[hk]
 refine j8 (DC (wpAny_attempt ?_))
 have e:ky κ x=a/\ky κ y=b:=⟨by unfold ky;rw[ha];rfl,by unfold ky;rw[hb];rfl⟩
 rw[e.1,e.2] at q
 exact ho _ x.1 y.1 a b ha hb ⟨rfl,j4 q⟩
theorem l7{α:Type}{c:Prop}[Decidable c]{m1 m2:SM α}{Q:α->SortSt->Prop}{st:SortSt}(h1:c->wpS (model prog w) A E s m1 Q st)(h2:¬c->wpS (model prog w) A E s m2 Q st):wpS (model prog w) A E s (if c then m1 else m2) Q st:=by
 by_cases h:c
 ·rw[if_pos h];exact h1 h
 ·rw[if_neg h];exact h2 h
def QP(κ:KeyKind)(left:Bool)(key:Keyed)(arr:Array Keyed)(base i:Nat):Bool:=if left then κ.blt (KK κ arr (base+i)) (ky κ key) else !κ.blt (ky κ key) (KK κ arr (base+i))
theorem AH{arr:Array Keyed}{i:Nat}{p:Keyed}(h:arr[i]? =some p):KK κ arr i=ky κ p:=by
 unfold KK ky
 rw[h]
theorem S7{α β:Type}{m:SM α}{f:α->SM β}{Q1:α->SortSt->Prop}{Q:β->SortSt->Prop}{st:SortSt}(h1:wpS (model prog w) A E s m Q1 st)(h2:∀a st',Q1 a st'->wpS (model prog w) A E s (f a) Q st'):wpS (model prog w) A E s (m>>=f) Q st:=j8 (wpS_mono h1 h2)
abbrev GS:=Option (Option Nat)×Nat×Nat
def Qbh(b:Nat->Bool)(n T7:Nat)(st:SortSt)(i:Nat)(c:GS)(st':SortSt):Prop:=st=st'/\c.1=none/\c.2.1<c.2.2/\i+1<=c.2.2/\T7+c.2.1<n/\b (T7+c.2.1)=true
def Qbg(b:Nat->Bool)(n T7:Nat)(st:SortSt)(i:Nat)(c:GS)(st':SortSt):Prop:=st=st'/\c.1=none/\c.2.1<c.2.2/\i+1<=c.2.2/\c.2.1<=T7/\b (T7-c.2.1)=false
def Jp(b:Nat->Bool)(n:Nat)(st:SortSt)(i:Nat)(c:GS)(st':SortSt):Prop:=st=st'/\c.1=none/\c.2.1<=c.2.2/\c.2.2<=n/\(c.2.1=0\/b (c.2.1-1)=true)/\(c.2.2=n\/b c.2.2=false)/\c.2.2-c.2.1<=n-i
theorem Rt(ho:EV κ kd prog w A s){st:SortSt}{left:Bool}{key:Keyed}{arr:Array Keyed}{base n T7:Nat}{Q:Option Nat->SortSt->Prop}(hk:kindOf st=kd)(hH:∀p∈arr.toList,Fj κ p)(Ln:Fj κ key)(hb:base+n<=arr.size)(hh:T7<n)
  (mono:∀i j,i<=j->j<n->QP κ left key arr base j=true->QP κ left key arr base i=true)
  (q:∀k,k<=n->(∀i,i<k->QP κ left key arr base i=true)->(∀i,k<=i->i<n->QP κ left key arr base i=false)->Q (some k) st):wpS (model prog w) A E s (gal left key arr base n T7) Q st:=by
 have beyW:∀(i:Nat) (Q':Option Bool->SortSt->Prop),i<n->Q' (some (QP κ left key arr base i)) st->wpS (model prog w) A E s (elem' arr (base+i)>>=fun x=>if left=true then lt' x key else lt' key x>>=fun l=>pure (Option.map (fun x=> !x) l)) Q' st:=fun i Q' hi q'=>by
  obtain⟨p,hp⟩:∃p,arr[base+i]? =some p:=⟨arr[base+i],NA (by omega)⟩
  have OU:Fj κ p:=hH p (by have:=Array.getElem_of_getElem? hp;rw[<-this.2];simp)
  refine j8 (C5 hp ?_)
  unfold QP at q'
  rw[AH hp] at q'
  refine l7 (fun hl=> ?_) (fun hl=> ?_)
  ·rw[if_pos hl] at q'
   exact Ke ho hk OU Ln q'
  ·rw[if_neg hl] at q'
   exact j8 (Ke ho hk Ln OU (j4 q'))
 generalize hbv:QP κ left key arr base=b at*
 have bin:∀(lo hi:Nat),lo<=hi->hi<=n->(lo=0\/b (lo-1)=true)->(hi=n\/b hi=false)->Jp b n st 0 (none,lo,hi) st:=fun lo hi h1 h2 h3 h4=>⟨rfl,rfl,h1,h2,h3,h4,by show hi-lo<=n-0;omega⟩
 have spl:∀c st',Jp b n st n c st'\/(Jp b n st 0 c st'/\c.2.1≥c.2.2)->st=st'/\c.1=none/\Q (some c.2.2) st:=fun c st' h=>by
  obtain⟨⟨e1,e2,l1,l2,l3,l4,_⟩,l5⟩:Jp b n st 0 c st'/\c.2.1≥c.2.2:=by
   rcases h with ⟨e1,e2,l1,l2,l3,l4,l5⟩|h
   ·exact⟨⟨e1,e2,l1,l2,l3,l4,by omega⟩,by omega⟩
   ·exact h
  have e3:c.2.1=c.2.2:=by omega
  rw[e3] at l3
  refine⟨e1,e2,q c.2.2 l2 (fun i hi=> ?_) (fun i h1 h2=> ?_)⟩
  ·rcases l3 with z|z
   ·omega
   ·exact mono i (c.2.2-1) (by omega) (by omega) z
  ·rcases l4 with z|z
   ·omega
   ·cases hb:b i with
    |false=>rfl
    |true=>rw[mono c.2.2 i h1 h2 hb] at z;cases z
 refine j8 (beyW T7 _ hh ?_)
 dsimp only
 refine l7 (fun hr=> ?_) (fun hr=> ?_)
 ·refine S7 (Q1:=fun c st'=>st=st'/\c.1=none/\c.2.1<c.2.2/\T7+c.2.1<n/\b (T7+c.2.1)=true/\(c.2.2≥n-T7\/b (T7+c.2.2)=false)) (S9 (Qbh b n T7 st) ?_ ?_ ⟨rfl,rfl,by decide,by decide,by exact hh,hr⟩) ?_
  ·rintro i ⟨o,la,of⟩ st' _ hi ⟨e1,e2,l1,l2,l3,l4⟩
   dsimp only at e2 l1 l2 l3 l4⊢
   subst e1
   refine l7 (fun h=>j4 ⟨rfl,rfl,l1,l3,l4, .inl h⟩) (fun h=>j8 (beyW (T7+of) _ (by omega) ?_))
   dsimp only
   refine l7 (fun h2=>j4 ⟨rfl,rfl,l1,l3,l4, .inr (by simpa using h2)⟩) (fun h2=>j4 ⟨rfl,rfl,by show of<2*of+1;omega,by show i+1+1<=2*of+1;omega,by show T7+of<n;omega,by simpa using h2⟩)
  ·rintro⟨o,la,of⟩ st' ⟨e1,e2,l1,l2,l3,l4⟩
   exact⟨e1,e2,l1,l3,l4, .inl (by have:max 0 n+1<=of:=l2;show of≥n-T7;omega)⟩
  ·rintro⟨o,la,of⟩ st' ⟨e1,e2,l1,l3,l4,l5⟩
   dsimp only at e2 l1 l3 l4 l5⊢
   subst e1 e2
   dsimp only
   refine S7 (Q1:=fun c st'=>st=st'/\c.1=none/\Q (some c.2.2) st) (S9 (Jp b n st) ?_ ?_ (bin _ _ (by omega) (by omega) (.inr (by show b (T7+la+1-1)=true;rw[Hb];exact l4)) ?_)) ?_
   ·rintro i ⟨o,lo,hi⟩ st' _ Ux ⟨e1,e2,l1,l2,l3,l4,l5⟩
    dsimp only at e2 l1 l2 l3 l4 l5⊢
    subst e1
    refine l7 (fun h=>j4 (spl _ _ (.inr ⟨⟨rfl,rfl,l1,l2,l3,l4,by show hi-lo<=n-0;omega⟩,h⟩))) (fun h=>j8 (beyW (lo+(hi-lo)/2) _ (by omega) ?_))
    dsimp only
    refine l7 (fun h2=>j4 ⟨rfl,rfl,by show lo+(hi-lo)/2+1<=hi;omega,l2, .inr (by show b (lo+(hi-lo)/2+1-1)=true;rw[Hb];exact h2),l4,by show hi-(lo+(hi-lo)/2+1)<=n-(i+1);omega⟩) (fun h2=>j4 ⟨rfl,rfl,by show lo<=lo+(hi-lo)/2;omega,by show lo+(hi-lo)/2<=n;omega,l3, .inr (by simpa using h2),by show lo+(hi-lo)/2-lo<=n-(i+1);omega⟩)
   ·rintro c st' h
    exact spl _ _ (.inl (by rw[Nz (x5 n)] at h;exact h))
   ·by_cases hm:of≥n-T7
    ·exact .inl (by rw[Nat.min_eq_right (by omega)];omega)
    ·exact .inr (by rw[Ha (by omega)];exact l5.resolve_left hm)
   ·rintro⟨o,lo,hi⟩ st' ⟨e1,e2,qq⟩
    dsimp only at e2 qq⊢
    subst e1 e2
    exact j4 qq
 ·refine S7 (Q1:=fun c st'=>st=st'/\c.1=none/\c.2.1<c.2.2/\c.2.1<=T7/\b (T7-c.2.1)=false/\(c.2.2≥T7+1\/b (T7-c.2.2)=true)) (S9 (Qbg b n T7 st) ?_ ?_ ⟨rfl,rfl,by decide,by decide,x5 _,by simpa using hr⟩) ?_
  ·rintro i ⟨o,la,of⟩ st' _ hi ⟨e1,e2,l1,l2,l3,l4⟩
   dsimp only at e2 l1 l2 l3 l4⊢
   subst e1
   refine l7 (fun h=>j4 ⟨rfl,rfl,l1,l3,l4, .inl h⟩) (fun h=>j8 (beyW (T7-of) _ (by omega) ?_))
   dsimp only
   refine l7 (fun h2=>j4 ⟨rfl,rfl,l1,l3,l4, .inr h2⟩) (fun h2=>j4 ⟨rfl,rfl,by show of<2*of+1;omega,by show i+1+1<=2*of+1;omega,by show of<=T7;omega,by simpa using h2⟩)
  ·rintro⟨o,la,of⟩ st' ⟨e1,e2,l1,l2,l3,l4⟩
   exact⟨e1,e2,l1,l3,l4, .inl (by have:max 0 n+1<=of:=l2;show of≥T7+1;omega)⟩
  ·rintro⟨o,la,of⟩ st' ⟨e1,e2,l1,l3,l4,l5⟩
   dsimp only at e2 l1 l3 l4 l5⊢
   subst e1 e2
   dsimp only
   refine S7 (Q1:=fun c st'=>st=st'/\c.1=none/\Q (some c.2.2) st) (S9 (Jp b n st) ?_ ?_ (bin _ _ (by omega) (by omega) ?_ (.inr l4))) ?_
   ·rintro i ⟨o,lo,hi⟩ st' _ Ux ⟨e1,e2,l1,l2,l3,l4,l5⟩
    dsimp only at e2 l1 l2 l3 l4 l5⊢
    subst e1
    refine l7 (fun h=>j4 (spl _ _ (.inr ⟨⟨rfl,rfl,l1,l2,l3,l4,by show hi-lo<=n-0;omega⟩,h⟩))) (fun h=>j8 (beyW (lo+(hi-lo)/2) _ (by omega) ?_))
    dsimp only
    refine l7 (fun h2=>j4 ⟨rfl,rfl,by show lo+(hi-lo)/2+1<=hi;omega,l2, .inr (by show b (lo+(hi-lo)/2+1-1)=true;rw[Hb];exact h2),l4,by show hi-(lo+(hi-lo)/2+1)<=n-(i+1);omega⟩) (fun h2=>j4 ⟨rfl,rfl,by show lo<=lo+(hi-lo)/2;omega,by show lo+(hi-lo)/2<=n;omega,l3, .inr (by simpa using h2),by show lo+(hi-lo)/2-lo<=n-(i+1);omega⟩)
   ·rintro c st' h
    exact spl _ _ (.inl (by rw[Nz (x5 n)] at h;exact h))
   ·by_cases hm:of≥T7+1
    ·exact .inl (by rw[Nat.min_eq_right (by omega)];omega)
    ·refine .inr ?_
     rw[Ha (by omega),show T7+1-of-1=T7-of by omega]
     exact l5.resolve_left hm
   ·rintro⟨o,lo,hi⟩ st' ⟨e1,e2,qq⟩
    dsimp only at e2 qq⊢
    subst e1 e2
    exact j4 qq
def le(κ:KeyKind)(p q:Keyed):Prop:=κ.kle (ky κ p) (ky κ q)
theorem le_trans{p q r:Keyed}(h:le κ p q)(g:le κ q r):le κ p r:=BJ h g
structure G(κ:KeyKind)(la lb out:List Keyed)(ia ib:Nat):Prop where
 pm:out.Perm (la.take ia++lb.take ib)
 so:out.Pairwise (le κ)
 lw:∀x∈out,∀y,(y∈la.drop ia\/y∈lb.drop ib)->le κ x y
theorem G.swap{la lb out:List Keyed}{ia ib:Nat}(h:G κ la lb out ia ib):G κ lb la out ib ia:=⟨h.pm.trans CI,h.so,fun x hx y hy=>h.lw x hx y hy.symm⟩
theorem Jz{l:List Keyed}{i:Nat}{x:Keyed}(h:l[i]? =some x):l.drop i=x::l.drop (i+1):=by
 obtain⟨hi,e⟩:=D9.mp h
 rw[AE hi,e]
theorem G.push{la lb out:List Keyed}{ia ib:Nat}{x:Keyed}(h:G κ la lb out ia ib)(sa:la.Pairwise (le κ))(ha:la[ia]? =some x)(Bc:∀y∈lb.drop ib,le κ x y):G κ la lb (out++[x]) (ia+1) ib:=by
 have hd:=Jz ha
 refine⟨?_,?_,?_⟩
 ·rw[q9,ha]
  show (out++[x]).Perm (la.take ia++[x]++lb.take ib)
  refine(h.pm.append_right [x]).trans ?_
  rw[o5,o5]
  exact Ny _ CI
 ·rw[AD]
  refine⟨h.so,GZ _ _,fun z hz y hy=> ?_⟩
  rw[D4.mp hy]
  exact h.lw z hz x (.inl (by rw[hd];exact C0))
 ·intro z hz y hy
  rcases U3.mp hz with h1|h1
  ·exact h.lw z h1 y (hy.imp (fun m=>by rw[hd];exact D5 _ m) id)
  ·rw[D4.mp h1]
   rcases hy with m|m
   ·have:=(DB.mp (hd▸sa.drop:(x::la.drop (ia+1)).Pairwise (le κ))).1
    exact this y m
   ·exact Bc y m
theorem G.chunk{la lb:List Keyed}{ib:Nat}(sa:la.Pairwise (le κ)):∀(k:Nat) {out:List Keyed} {ia:Nat},G κ la lb out ia ib->ia+k<=la.length->(∀i,i<k->∀x,la[ia+i]? =some x->∀y∈lb.drop ib,le κ x y)->G κ la lb (out++(la.drop ia).take k) (ia+k) ib
 |0,out,ia,h,_,_=>by rw[M6,List.append_nil];exact h
 |k+1,out,ia,h,hl,hk=>by
  obtain⟨x,hx⟩:∃x,la[ia]? =some x:=⟨la[ia],u9 (by omega)⟩
  have h1:=h.push sa hx (hk 0 (by omega) x hx)
  have h2:=G.chunk sa k h1 (by omega) (fun i hi y hy=>hk (i+1) (by omega) y (by rw[show ia+(i+1)=ia+1+i by omega];exact hy))
  rw[Jz hx,List.take_succ_cons]
  rw[o5] at h2
  rw[show ia+(k+1)=ia+1+k by omega]
  exact h2
def QV(κ:KeyKind)(la lb r:List Keyed):Prop:=r.Perm (la++lb)/\r.Pairwise (le κ)
theorem G.fin{la lb out r:List Keyed}{ia ib:Nat}(h:G κ la lb out ia ib)(pr:r.Perm (la.drop ia++lb.drop ib))(sr:r.Pairwise (le κ)):QV κ la lb (out++r):=by
 constructor
 ·refine(h.pm.append pr).trans ?_
  have e1:la++lb=la.take ia++(la.drop ia++(lb.take ib++lb.drop ib)):=by rw[<-o5,Bh,Bh]
  rw[e1,o5]
  refine Ny _ ?_
  rw[<-o5,<-o5]
  exact VG _ CI
 ·rw[AD]
  refine⟨h.so,sr,fun x hx y hy=>h.lw x hx y ?_⟩
  exact U3.mp (pr.mem_iff.mp hy)
theorem G.doneA{la lb out:List Keyed}{ia ib:Nat}(h:G κ la lb out ia ib)(sa:la.Pairwise (le κ))(hb:lb.drop ib=[]):QV κ la lb (out++la.drop ia++lb.drop ib):=by
 rw[o5]
 exact h.fin (Z0 _) (by rw[hb,List.append_nil];exact sa.drop)
theorem G.doneB{la lb out:List Keyed}{ia ib:Nat}(h:G κ la lb out ia ib)(sb:lb.Pairwise (le κ))(ha:la.drop ia=[]):QV κ la lb (out++la.drop ia++lb.drop ib):=by
 rw[o5]
 exact h.fin (Z0 _) (by rw[ha,List.nil_append];exact sb.drop)
theorem G.last{la lb out:List Keyed}{ia ib:Nat}{x:Keyed}(h:G κ la lb out ia ib)(sb:lb.Pairwise (le κ))(ha:la.drop ia=[x])(hx:∀y∈lb,le κ y x):QV κ la lb (out++lb.drop ib++la.drop ia):=by
 rw[o5]
 refine h.fin CI ?_
 rw[ha,AD]
 refine⟨sb.drop,GZ _ _,fun y hy z hz=> ?_⟩
 rw[D4.mp hz]
 exact hx y (VF hy)
structure SG(st st':SortSt):Prop where
 ki:kindOf st'=kindOf st
 ar:arrOf st'=arrOf st
 pe:pendingOf st'=pendingOf st
 fa:failedOf st'=failedOf st
theorem SG.refl(st:SortSt):SG st st:=⟨rfl,rfl,rfl,rfl⟩
theorem SG.trans{a b c:SortSt}(h:SG a b)(g:SG b c):SG a c:=⟨g.ki.trans h.ki,g.ar.trans h.ar,g.pe.trans h.pe,g.fa.trans h.fa⟩
theorem IB{g:Nat}{st:SortSt}{Q:Unit->SortSt->Prop}(q:∀st',SG st st'->Q () st'):wpS (model prog w) A E s (smg g) Q st:=DA (q _ ⟨rfl,rfl,rfl,rfl⟩)
theorem P5{l:List Keyed}(h:l.Pairwise (le κ)){i j:Nat}{x y:Keyed}(Hy:i<=j)(hx:l[i]? =some x)(hy:l[j]? =some y):le κ x y:=by
 obtain⟨h1,e1⟩:=D9.mp hx
 obtain⟨h2,e2⟩:=D9.mp hy
 rcases Nat.lt_or_eq_of_le Hy with h3|h3
 ·have:=GY.mp h i j h1 h2 h3
  rw[e1,e2] at this
  exact this
 ·subst h3
  rw[<-e1,<-e2]
  exact CH _
theorem QA(a:Array Keyed)(i:Nat):(a.extract i).toList=a.toList.drop i:=by simp [Y0]
theorem Xx(a:Array Keyed)(i j:Nat):(a.extract i j).toList=(a.toList.drop i).take (j-i):=by simp
theorem tl(a:Array Keyed)(i:Nat):a.toList[i]? =a[i]? :=Iq
theorem Y8(a:Array Keyed):a.toList.length=a.size:=CD
theorem U1{a:Array Keyed}{i:Nat}(h:i<a.size):∃x,a[i]? =some x:=⟨a[i],NA h⟩
theorem V1{a:Array Keyed}{i:Nat}{x:Keyed}(h:a[i]? =some x):x∈a.toList:=E7 (by rw[tl];exact h)
theorem Le{l:List Keyed}{i:Nat}{y:Keyed}(h:y∈l.drop i):∃j,i<=j/\l[j]? =some y:=by
 obtain⟨j,hj⟩:=Bj.mp h
 rw[Bk] at hj
 exact⟨i+j,by omega,hj⟩
theorem Ao{x y:κ.α}(h:κ.blt y x=false):κ.kle x y:=KeyOrd.kle_of_not_klt (by intro z;have z':κ.blt y x=true:=z;rw[h] at z';cases z')
theorem Xa{x y:κ.α}(h:κ.kle x y):κ.blt y x=false:=by
 cases hb:κ.blt y x with
 |false=>rfl
 |true=>exact absurd (show κ.klt y x from hb) (KeyOrd.not_klt_of_kle h)
theorem Ec{x y:κ.α}(h:κ.blt x y=true):κ.kle x y:=KeyOrd.kle_of_klt (show κ.klt x y from h)
theorem ID(ho:EV κ kd prog w A s){st:SortSt}{key:Keyed}{arr:Array Keyed}{base n T7:Nat}{Q:Option Nat->SortSt->Prop}(hk:kindOf st=kd)(hH:∀p∈arr.toList,Fj κ p)(Ln:Fj κ key)(hb:base+n<=arr.size)(hh:T7<n)(so:∀i j x y,base<=i->i<=j->j<base+n->arr[i]? =some x->arr[j]? =some y->le κ x y)
  (q:∀k,k<=n->(∀i x,i<k->arr[base+i]? =some x->le κ x key)->(∀i x,k<=i->i<n->arr[base+i]? =some x->le κ key x)->Q (some k) st):wpS (model prog w) A E s (gal false key arr base n T7) Q st:=by
 refine Rt ho hk hH Ln hb hh (fun i j Hy hj h=> ?_) (fun k k1 k2 k3=>q k k1 (fun i x hi hx=> ?_) (fun i x hi Ep hx=> ?_))
 ·obtain⟨x,hx⟩:=U1 (a:=arr) (i:=base+i) (by omega)
  obtain⟨y,hy⟩:=U1 (a:=arr) (i:=base+j) (by omega)
  have:=so (base+i) (base+j) x y (by omega) (by omega) (by omega) hx hy
  unfold QP at h⊢
  rw[AH hy] at h
  rw[AH hx]
  simp at h⊢
  exact Xa (BJ this (Ao h))
 ·have:=k2 i hi
  unfold QP at this
  rw[AH hx] at this
  simp at this
  exact Ao this
 ·have:=k3 i hi Ep
  unfold QP at this
  rw[AH hx] at this
  simp at this
  exact Ec this
theorem IE(ho:EV κ kd prog w A s){st:SortSt}{key:Keyed}{arr:Array Keyed}{base n T7:Nat}{Q:Option Nat->SortSt->Prop}(hk:kindOf st=kd)(hH:∀p∈arr.toList,Fj κ p)(Ln:Fj κ key)(hb:base+n<=arr.size)(hh:T7<n)(so:∀i j x y,base<=i->i<=j->j<base+n->arr[i]? =some x->arr[j]? =some y->le κ x y)
  (q:∀k,k<=n->(∀i x,i<k->arr[base+i]? =some x->le κ x key)->(∀i x,k<=i->i<n->arr[base+i]? =some x->le κ key x)->Q (some k) st):wpS (model prog w) A E s (gal true key arr base n T7) Q st:=by
 refine Rt ho hk hH Ln hb hh (fun i j Hy hj h=> ?_) (fun k k1 k2 k3=>q k k1 (fun i x hi hx=> ?_) (fun i x hi Ep hx=> ?_))
 ·obtain⟨x,hx⟩:=U1 (a:=arr) (i:=base+i) (by omega)
  obtain⟨y,hy⟩:=U1 (a:=arr) (i:=base+j) (by omega)
  have:=so (base+i) (base+j) x y (by omega) (by omega) (by omega) hx hy
  unfold QP at h⊢
  rw[AH hy] at h
  rw[AH hx]
  simp at h⊢
  exact KeyOrd.klt_of_kle_of_klt this h
 ·have:=k2 i hi
  unfold QP at this
  rw[AH hx] at this
  simp at this
  exact Ec this
 ·have:=k3 i hi Ep
  unfold QP at this
  rw[AH hx] at this
  simp at this
  exact Ao this
structure Gd(κ:KeyKind)(a b out:Array Keyed)(ia ib:Nat):Prop where
 g:G κ a.toList b.toList out.toList ia ib
 la:ia+1<a.size
 lb:ib<b.size
def AI(κ:KeyKind)(a b r:Array Keyed):Prop:=QV κ a.toList b.toList r.toList
theorem Tg{a b out:Array Keyed}{ia ib:Nat}{x y:Keyed}(h:G κ a.toList b.toList out.toList ia ib)(sa:a.toList.Pairwise (le κ))(sb:b.toList.Pairwise (le κ))(hx:a[ia]? =some x)(hy:b[ib]? =some y)(Bc:le κ x y):G κ a.toList b.toList (out.push x).toList (ia+1) ib:=by
 rw[Nw]
 refine h.push sa (by rw[tl];exact hx) fun z hz=> ?_
 obtain⟨j,hj,ez⟩:=Le hz
 exact le_trans Bc (P5 sb hj (by rw[tl];exact hy) ez)
theorem Tf{a b out:Array Keyed}{ia ib:Nat}{x y:Keyed}(h:G κ a.toList b.toList out.toList ia ib)(sa:a.toList.Pairwise (le κ))(sb:b.toList.Pairwise (le κ))(hx:a[ia]? =some x)(hy:b[ib]? =some y)(Bc:le κ y x):G κ a.toList b.toList (out.push y).toList ia (ib+1):=(Tg h.swap sb sa hy hx Bc).swap
theorem UV{a b out:Array Keyed}{ia ib k:Nat}{y:Keyed}(h:G κ a.toList b.toList out.toList ia ib)(sa:a.toList.Pairwise (le κ))(sb:b.toList.Pairwise (le κ))(hk:ia+k<=a.size)(hy:b[ib]? =some y)(Bc:∀i x,i<k->a[ia+i]? =some x->le κ x y):G κ a.toList b.toList (out++a.extract ia (ia+k)).toList (ia+k) ib:=by
 rw[V4,Xx,Nat.add_sub_cancel_left]
 refine h.chunk sa k (by rw[Y8];exact hk) fun i hi x hx z hz=> ?_
 obtain⟨j,hj,ez⟩:=Le hz
 exact le_trans (Bc i x hi (by rw[<-tl];exact hx)) (P5 sb hj (by rw[tl];exact hy) ez)
theorem Qbq{a b out:Array Keyed}{ia ib k:Nat}{x:Keyed}(h:G κ a.toList b.toList out.toList ia ib)(sa:a.toList.Pairwise (le κ))(sb:b.toList.Pairwise (le κ))(hk:ib+k<=b.size)(hx:a[ia]? =some x)(Bc:∀i y,i<k->b[ib+i]? =some y->le κ y x):G κ a.toList b.toList (out++b.extract ib (ib+k)).toList ia (ib+k):=(UV h.swap sb sa hk hx Bc).swap
theorem Xy{a b out:Array Keyed}{ia ib:Nat}(h:G κ a.toList b.toList out.toList ia ib)(sa:a.toList.Pairwise (le κ))(e:(ib==b.size)=true):AI κ a b (out++a.extract ia++b.extract ib):=by
 unfold AI
 rw[V4,V4,QA,QA]
 exact h.doneA sa (GX (by rw[Y8];have:=eq_of_beq e;omega))
theorem Qdo{a b out:Array Keyed}{ia ib:Nat}(h:G κ a.toList b.toList out.toList ia ib)(sb:b.toList.Pairwise (le κ))(e:(ia==a.size)=true):AI κ a b (out++a.extract ia++b.extract ib):=by
 unfold AI
 rw[V4,V4,QA,QA]
 exact h.doneB sb (GX (by rw[Y8];have:=eq_of_beq e;omega))
theorem OM{a b out:Array Keyed}{ia ib:Nat}(h:G κ a.toList b.toList out.toList ia ib)(sb:b.toList.Pairwise (le κ))(hl:∀x,a[a.size-1]? =some x->∀y∈b.toList,le κ y x)(e:(ia+1==a.size)=true):AI κ a b (out++b.extract ib++a.extract ia):=by
 unfold AI
 have e':ia+1=a.size:=eq_of_beq e
 obtain⟨x,hx⟩:=U1 (a:=a) (i:=ia) (by omega)
 rw[V4,V4,QA,QA]
 refine h.last (x:=x) sb ?_ (hl x (by rw[show a.size-1=ia by omega];exact hx))
 rw[Jz (by rw[tl];exact hx),GX (by rw[Y8];omega)]
abbrev C1:=Option (Array Keyed)×Array Keyed×Nat×Nat×Nat×Nat
abbrev C2:=Option (Array Keyed)×Array Keyed×Nat×Nat×Nat×Nat×Nat
def R1(κ:KeyKind)(a b:Array Keyed)(st:SortSt)(n:Nat)(c:C1)(st':SortSt):Prop:=SG st st'/\((∃r,c.1=some r/\AI κ a b r)\/(c.1=none/\Gd κ a b c.2.1 c.2.2.1 c.2.2.2.1/\n<=c.2.2.1+c.2.2.2.1))
def R2(κ:KeyKind)(a b:Array Keyed)(st:SortSt)(n:Nat)(c:C2)(st':SortSt):Prop:=SG st st'/\((∃r,c.1=some r/\AI κ a b r)\/(c.1=none/\Gd κ a b c.2.1 c.2.2.1 c.2.2.2.1/\n<=c.2.2.1+c.2.2.2.1))
def J1(κ:KeyKind)(a b:Array Keyed)(st:SortSt)(n j:Nat)(c:C1)(st':SortSt):Prop:=SG st st'/\c.1=none/\Gd κ a b c.2.1 c.2.2.1 c.2.2.2.1/\n+j<=c.2.2.1+c.2.2.2.1
def J2(κ:KeyKind)(a b:Array Keyed)(st:SortSt)(n j:Nat)(c:C2)(st':SortSt):Prop:=SG st st'/\c.1=none/\Gd κ a b c.2.1 c.2.2.1 c.2.2.2.1/\n<=c.2.2.1+c.2.2.2.1
def J0(κ:KeyKind)(a b:Array Keyed)(st:SortSt)(i:Nat)(c:Option (Array Keyed)×Array Keyed×Nat×Nat×Nat)(st':SortSt):Prop:=SG st st'/\c.1=none/\Gd κ a b c.2.1 c.2.2.1 c.2.2.2.1/\i+1<=c.2.2.1+c.2.2.2.1
theorem Zh(ho:EV κ kd prog w A s){st:SortSt}{a b:Array Keyed}{Q:Array Keyed->SortSt->Prop}(hk:kindOf st=kd)(hHa:∀p∈a.toList,Fj κ p)(hHb:∀p∈b.toList,Fj κ p)(sa:a.toList.Pairwise (le κ))(sb:b.toList.Pairwise (le κ))(na:1<=a.size)(nb:1<=b.size)
  (h0:∀x,b[0]? =some x->∀y∈a.toList,le κ x y)(hl:∀x,a[a.size-1]? =some x->∀y∈b.toList,le κ y x)
  (q:∀r st',SG st st'->AI κ a b r->Q r st'):wpS (model prog w) A E s (mlo a b) Q st:=by
 obtain⟨b0,hb0⟩:=U1 (a:=b) (i:=0) (by omega)
 have g0:G κ a.toList b.toList (#[b0]:Array Keyed).toList 0 1:=by
  have g:G κ a.toList b.toList (#[]:Array Keyed).toList 0 0:=⟨by simp,List.Pairwise.nil,fun x hx=>by cases hx⟩
  obtain⟨a0,ha0⟩:=U1 (a:=a) (i:=0) (by omega)
  exact Tf g sa sb ha0 hb0 (h0 b0 hb0 a0 (V1 ha0))
 have soA:∀i j x y,i<=j->a[i]? =some x->a[j]? =some y->le κ x y:=fun i j x y Hy hx hy=>P5 sa Hy (by rw[tl];exact hx) (by rw[tl];exact hy)
 have soB:∀i j x y,i<=j->b[i]? =some x->b[j]? =some y->le κ x y:=fun i j x y Hy hx hy=>P5 sb Hy (by rw[tl];exact hx) (by rw[tl];exact hy)
 refine j8 (DC (ES ⟨rfl,?_⟩))
 refine j8 (C5 hb0 ?_)
 refine l7 (fun h=>j4 (q _ _ (SG.refl _) (Xy g0 sa h))) (fun h=>l7 (fun h2=>j4 (q _ _ (SG.refl _) (OM g0 sb hl h2))) (fun h2=>j8 (Bi ?_)))
 have n1:¬1=b.size:=fun e=>h (by rw[<-e];rfl)
 have n2:¬0+1=a.size:=fun e=>h2 (by rw[<-e];rfl)
 refine S7 (Q1:=fun c st'=>SG st st'/\∃r,c.1=some r/\AI κ a b r) (S9 (J0 κ a b st) ?_ ?_ ⟨SG.refl _,rfl,⟨g0,by show 0+1<a.size;omega,by show 1<b.size;omega⟩,by show 0+1<=0+1;omega⟩) ?_
 ·rintro i ⟨o,out,ia,ib,mg⟩ st' _ hi ⟨s1,e1,gd,hn⟩
  dsimp only at e1 gd hn
  refine S7 (Q1:=R1 κ a b st (ia+ib+1)) (S9 (J1 κ a b st (ia+ib)) ?_ ?_ ⟨s1,rfl,gd,l9 _⟩) ?_
  ·rintro j ⟨o,out,ja,jb,ac,bc⟩ st2 _ hj ⟨s2,e2,gd,hn2⟩
   dsimp only at e2 gd hn2
   obtain⟨x,hx⟩:=U1 (a:=a) (i:=ja) (by have:=gd.la;omega)
   obtain⟨y,hy⟩:=U1 (a:=b) (i:=jb) gd.lb
   refine j8 (C5 hy (j8 (C5 hx (j8 (Ke ho (s2.ki.trans hk) (hHb _ (V1 hy)) (hHa _ (V1 hx)) ?_)))))
   refine l7 (fun hb=>j8 (C5 hy ?_)) (fun hb=>j8 (C5 hx ?_))
   ·have g1:=Tf gd.g sa sb hx hy (Ec hb)
    refine l7 (fun e=>j4 ⟨s2, .inl ⟨_,rfl,Xy g1 sa e⟩⟩) (fun e=> ?_)
    have ne:¬jb+1=b.size:=fun e'=>e (by rw[<-e'];exact CG _)
    have gd1:Gd κ a b (out.push y) ja (jb+1):=⟨g1,gd.la,by have:=gd.lb;omega⟩
    exact l7 (fun _=>j4 ⟨s2, .inr ⟨rfl,gd1,by show ia+ib+1<=ja+(jb+1);omega⟩⟩) (fun _=>j4 ⟨s2,rfl,gd1,by show ia+ib+(j+1)<=ja+(jb+1);omega⟩)
   ·have g1:=Tg gd.g sa sb hx hy (Ao (by simpa using hb))
    refine l7 (fun e=>j4 ⟨s2, .inl ⟨_,rfl,OM g1 sb hl e⟩⟩) (fun e=> ?_)
    have ne:¬ja+1+1=a.size:=fun e'=>e (by rw[<-e'];exact CG _)
    have gd1:Gd κ a b (out.push x) (ja+1) jb:=⟨g1,by have:=gd.la;omega,gd.lb⟩
    exact l7 (fun _=>j4 ⟨s2, .inr ⟨rfl,gd1,by show ia+ib+1<=ja+1+jb;omega⟩⟩) (fun _=>j4 ⟨s2,rfl,gd1,by show ia+ib+(j+1)<=ja+1+jb;omega⟩)
  ·rintro⟨o,out,ja,jb,ac,bc⟩ st2 ⟨s2,e2,gd,hn2⟩
   dsimp only at e2 gd hn2
   exact⟨s2, .inr ⟨e2,gd,by show ia+ib+1<=ja+jb;omega⟩⟩
  ·rintro⟨o,out,ja,jb,ac,bc⟩ st2 ⟨s2,⟨r,e2,hr⟩|⟨e2,gd,hn2⟩⟩
   ·dsimp only at e2
    subst e2
    exact j4 ⟨s2,r,rfl,hr⟩
   ·dsimp only at e2 gd hn2
    subst e2
    refine j8 (DC (ES ⟨rfl,?_⟩))
    refine S7 (Q1:=R2 κ a b st (ia+ib+1)) (S9 (J2 κ a b st (ia+ib+1)) ?_ ?_ ⟨s2,rfl,gd,hn2⟩) ?_
    ·clear gd hn2
     rintro j ⟨o,out,ja,jb,mg2,ac,bc⟩ st3 _ hj ⟨s3,e3,gd,hn3⟩
     dsimp only at e3 gd hn3
     obtain⟨y,hy⟩:=U1 (a:=b) (i:=jb) gd.lb
     refine l7 (fun _=> ?_) (fun _=> ?_)<;>{
      refine j8 (IB fun st4 s4=> ?_)
      have s34:=s3.trans s4
      have k4:=s34.ki.trans hk
      have la:=gd.la
      refine j8 (C5 hy (j8 (ID ho k4 hHa (hHb _ (V1 hy)) (by show ja+(a.size-ja)<=a.size;omega) (by show 0<a.size-ja;omega) (fun i j x y _ Hy _ hx hy=>soA i j x y Hy hx hy) fun k (k1:k<=a.size-ja) (k2:∀i x,i<k->a[ja+i]? =some x->le κ x y) (k3:∀i x,k<=i->i<a.size-ja->a[ja+i]? =some x->le κ y x)=> ?_)))
      have gk:=UV (k:=k) gd.g sa sb (by omega) hy k2
      refine l7 (fun hk0=>l7 (fun e=>j4 ⟨s34, .inl ⟨_,rfl,OM gk sb hl e⟩⟩) fun e=>l7 (fun e2=>j4 ⟨s34, .inl ⟨_,rfl,Qdo gk sb e2⟩⟩) fun e2=> ?_) (fun hk0=> ?_)
      have ne1:¬ja+k+1=a.size:=fun e'=>e (by show (ja+k+1==a.size)=true;rw[e'];exact CG _)
      have ne2:¬ja+k=a.size:=fun e'=>e2 (by show (ja+k==a.size)=true;rw[e'];exact CG _)
      dsimp only
      obtain⟨o2,ka,hO,hK,gk',L1,C1,hn4⟩:∃(o2:Array Keyed) (ka:Nat),o2=out++a.extract ja (ja+k)/\ka=ja+k/\G κ a.toList b.toList o2.toList ka jb/\ka+1<a.size/\(∀i x,ka<=i->i<a.size->a[i]? =some x->le κ y x)/\ia+ib+1<=ka+jb:=⟨_,_,rfl,rfl,gk,by omega,fun i x h1 h2 hx=>k3 (i-ja) x (by omega) (by omega) (by rw[show ja+(i-ja)=i by omega];exact hx),by omega⟩
      rw[<-hO,<-hK]
      rotate_left
      have ek:k=0:=by omega
      dsimp only
      obtain⟨o2,ka,hO,hK,gk',L1,C1,hn4⟩:∃(o2:Array Keyed) (ka:Nat),o2=out/\ka=ja/\G κ a.toList b.toList o2.toList ka jb/\ka+1<a.size/\(∀i x,ka<=i->i<a.size->a[i]? =some x->le κ y x)/\ia+ib+1<=ka+jb:=⟨out,ja,rfl,rfl,gd.g,gd.la,fun i x h1 h2 hx=>k3 (i-ja) x (by omega) (by omega) (by rw[show ja+(i-ja)=i by omega];exact hx),hn3⟩
      rw[<-hO,<-hK]
      all_goals
       obtain⟨x,hx⟩:=U1 (a:=a) (i:=ka) (by omega)
       have lb:=gd.lb
       refine j8 (C5 hy ?_)
       have g1:=Tf gk' sa sb hx hy (C1 ka x (l9 _) (by omega) hx)
       refine l7 (fun e=>j4 ⟨s34, .inl ⟨_,rfl,Xy g1 sa e⟩⟩) (fun e=> ?_)
       have ne:¬jb+1=b.size:=fun e'=>e (by rw[e'];exact CG _)
       refine j8 (C5 hx (j8 (IE ho k4 hHb (hHa _ (V1 hx)) (by omega) (by omega) (fun i j x y _ Hy _ hx hy=>soB i j x y Hy hx hy) fun k' l1 l2 l3=> ?_)))
       have g2:=Qbq (k:=k') g1 sa sb (by omega) hx l2
       have fin3:∀(o3:Array Keyed) (jc:Nat),G κ a.toList b.toList o3.toList ka jc->jc<b.size->(∀z,b[jc]? =some z->le κ x z)->jb+1<=jc->((ka+1+1==a.size)=true->AI κ a b ((o3.push x)++b.extract jc++a.extract (ka+1)))/\(¬(ka+1+1==a.size)=true->Gd κ a b (o3.push x) (ka+1) jc/\ia+ib+1<=ka+1+jc):=fun o3 jc h1 h2 h3 h4=>by
        obtain⟨z,hz⟩:=U1 h2
        have g3:=Tg h1 sa sb hx hz (h3 z hz)
        exact⟨fun e5=>OM g3 sb hl e5,fun e5=>⟨⟨g3,by have:¬ka+1+1=a.size:=fun e'=>e5 (by rw[e'];exact CG _);omega,h2⟩,by omega⟩⟩
       refine l7 (fun h5=>l7 (fun e3=>j4 ⟨s34, .inl ⟨_,rfl,Xy g2 sa e3⟩⟩) fun e3=>j8 (C5 hx ?_)) (fun h5=>j8 (C5 hx ?_))
       ·have ne3:¬jb+1+k'=b.size:=fun e'=>e3 (by rw[e'];exact CG _)
        have f3:=fin3 _ _ g2 (by omega) (fun z hz=>l3 k' z (l9 _) (by omega) hz) (by omega)
        exact l7 (fun e5=>j4 ⟨s34, .inl ⟨_,rfl,f3.1 e5⟩⟩) (fun e5=>l7 (fun _=>j4 ⟨s34, .inr ⟨rfl,f3.2 e5⟩⟩) (fun _=>j4 ⟨s34,rfl,f3.2 e5⟩))
       ·have f3:=fin3 _ _ g1 (by omega) (fun z hz=>l3 0 z (by omega) (by omega) hz) (by omega)
        exact l7 (fun e5=>j4 ⟨s34, .inl ⟨_,rfl,f3.1 e5⟩⟩) (fun e5=>l7 (fun _=>j4 ⟨s34, .inr ⟨rfl,f3.2 e5⟩⟩) (fun _=>j4 ⟨s34,rfl,f3.2 e5⟩))
     }
    ·rintro⟨o,out,ja,jb,mg2,ac,bc⟩ st3 ⟨s3,e3,gd,hn3⟩
     exact⟨s3, .inr ⟨e3,gd,hn3⟩⟩
    ·rintro⟨o,out,ja,jb,mg2,ac,bc⟩ st3 ⟨s3,⟨r,e3,hr⟩|⟨e3,gd,hn3⟩⟩
     ·dsimp only at e3
      subst e3
      exact j4 ⟨s3,r,rfl,hr⟩
     ·dsimp only at e3 gd hn3
      subst e3
      exact j8 (IB fun st4 s4=>j4 ⟨s3.trans s4,rfl,gd,by show i+1+1<=ja+jb;omega⟩)
 ·rintro⟨o,out,ia,ib,mg⟩ st' ⟨s1,e1,gd,hn⟩
  dsimp only at e1 gd hn
  exact absurd gd.lb (by have:=gd.la;omega)
 ·rintro⟨o,out,ia,ib,mg⟩ st' ⟨s1,r,e1,hr⟩
  dsimp only at e1
  subst e1
  exact j4 (q r st' s1 hr)
structure Hh(κ:KeyKind)(la lb out:List Keyed)(na nb:Nat):Prop where
 pm:out.Perm (la.drop na++lb.drop nb)
 so:out.reverse.Pairwise (le κ)
 up:∀x,(x∈la.take na\/x∈lb.take nb)->∀y∈out,le κ x y
theorem Hh.swap{la lb out:List Keyed}{na nb:Nat}(h:Hh κ la lb out na nb):Hh κ lb la out nb na:=⟨h.pm.trans CI,h.so,fun x hx y hy=>h.up x hx.symm y hy⟩
theorem Cu{l:List Keyed}{i:Nat}{y:Keyed}(h:y∈l.take i):∃j,j<i/\l[j]? =some y:=by
 obtain⟨j,hj⟩:=Bj.mp h
 rw[CK] at hj
 split at hj
 ·rename_i h1;exact⟨j,h1,hj⟩
 ·cases hj
theorem Mi{l:List Keyed}{n:Nat}{x:Keyed}(h:l[n]? =some x):l.take (n+1)=l.take n++[x]:=by rw[q9,h];rfl
theorem Hh.push{la lb out:List Keyed}{n nb:Nat}{x:Keyed}(h:Hh κ la lb out (n+1) nb)(sa:la.Pairwise (le κ))(ha:la[n]? =some x)(Bc:∀z∈lb.take nb,le κ z x):Hh κ la lb (out++[x]) n nb:=by
 refine⟨?_,?_,?_⟩
 ·rw[Jz ha]
  exact CI.trans (h.pm.cons x)
 ·rw[VE]
  show (x::out.reverse).Pairwise (le κ)
  rw[DB]
  exact⟨fun y hy=>h.up x (.inl (by rw[Mi ha];simp)) y (List.mem_reverse.mp hy),h.so⟩
 ·intro z hz y hy
  rcases U3.mp hy with h1|h1
  ·exact h.up z (hz.imp (fun m=>by rw[Mi ha];exact Pt _ m) id) y h1
  ·rw[D4.mp h1]
   rcases hz with m|m
   ·obtain⟨j,hj,ez⟩:=Cu m
    exact P5 sa (by omega) ez ha
   ·exact Bc z m
theorem Hh.chunk{la lb:List Keyed}{nb:Nat}(sa:la.Pairwise (le κ))(d:Nat):∀(k:Nat) {out:List Keyed},Hh κ la lb out (d+k) nb->d+k<=la.length->(∀i,i<k->∀x,la[d+i]? =some x->∀z∈lb.take nb,le κ z x)->Hh κ la lb (out++((la.drop d).take k).reverse) d nb
 |0,out,h,_,_=>by rw[M6,List.reverse_nil,List.append_nil];exact h
 |k+1,out,h,hl,hk=>by
  obtain⟨x,hx⟩:∃x,la[d+k]? =some x:=⟨la[d+k],u9 (by omega)⟩
  have h1:=h.push (n:=d+k) sa hx (hk k (by omega) x hx)
  have h2:=Hh.chunk sa d k h1 (by omega) (fun i hi=>hk i (by omega))
  have e:(la.drop d).take (k+1)=(la.drop d).take k++[x]:=Mi (by rw[Bk];exact hx)
  rw[e,VE,<-o5]
  exact h2
theorem Hh.fin{la lb out r:List Keyed}{na nb:Nat}(h:Hh κ la lb out na nb)(pr:r.Perm (la.take na++lb.take nb))(sr:r.Pairwise (le κ)):QV κ la lb (r++out.reverse):=by
 constructor
 ·refine(pr.append (out.reverse_perm.trans h.pm)).trans ?_
  have e1:la++lb=la.take na++(la.drop na++(lb.take nb++lb.drop nb)):=by rw[<-o5,Bh,Bh]
  rw[e1,o5]
  refine Ny _ ?_
  rw[<-o5,<-o5]
  exact VG _ CI
 ·rw[AD]
  exact⟨sr,h.so,fun x hx y hy=>h.up x (U3.mp (pr.mem_iff.mp hx)) y (List.mem_reverse.mp hy)⟩
theorem QB(a:Array Keyed)(n:Nat):(a.extract 0 n).toList=a.toList.take n:=by simp
abbrev Hl(κ:KeyKind)(a b out:Array Keyed)(na nb:Nat):Prop:=Hh κ a.toList b.toList out.toList na nb
theorem Jq{a b out:Array Keyed}{n nb:Nat}{x y:Keyed}(h:Hl κ a b out (n+1) (nb+1))(sa:a.toList.Pairwise (le κ))(sb:b.toList.Pairwise (le κ))(hx:a[n]? =some x)(hy:b[nb]? =some y)(Bc:le κ y x):Hl κ a b (out.push x) n (nb+1):=by
 show Hh κ a.toList b.toList (out.push x).toList n (nb+1)
 rw[Nw]
 refine Hh.push h sa (by rw[tl];exact hx) fun z hz=> ?_
 obtain⟨j,hj,ez⟩:=Cu hz
 exact le_trans (P5 (j:=nb) sb (by omega) ez (by rw[tl];exact hy)) Bc
theorem Uv{a b out:Array Keyed}{na nb:Nat}{x y:Keyed}(h:Hl κ a b out (na+1) (nb+1))(sa:a.toList.Pairwise (le κ))(sb:b.toList.Pairwise (le κ))(hx:a[na]? =some x)(hy:b[nb]? =some y)(Bc:le κ x y):Hl κ a b (out.push y) (na+1) nb:=(Jq (Hh.swap h) sb sa hy hx Bc).swap
theorem OY{a b out:Array Keyed}{d n nb:Nat}{y:Keyed}(h:Hl κ a b out n (nb+1))(sa:a.toList.Pairwise (le κ))(sb:b.toList.Pairwise (le κ))(hd:d<=n)(hn:n<=a.size)(hy:b[nb]? =some y)(Bc:∀i x,d<=i->i<n->a[i]? =some x->le κ y x):Hl κ a b (out++(a.extract d n).reverse) d (nb+1):=by
 show Hh κ a.toList b.toList (out++(a.extract d n).reverse).toList d (nb+1)
 rw[V4,JQ,Xx]
 refine Hh.chunk sa d (n-d) (by rw[show d+(n-d)=n by omega];exact h) (by rw[Y8];omega) fun i hi x hx z hz=> ?_
 obtain⟨j,hj,ez⟩:=Cu hz
 exact le_trans (P5 (j:=nb) sb (by omega) ez (by rw[tl];exact hy)) (Bc (d+i) x (by omega) (by omega) (by rw[<-tl];exact hx))
theorem Xv{a b out:Array Keyed}{d n na:Nat}{x:Keyed}(h:Hl κ a b out (na+1) n)(sa:a.toList.Pairwise (le κ))(sb:b.toList.Pairwise (le κ))(hd:d<=n)(hn:n<=b.size)(hx:a[na]? =some x)(Bc:∀i y,d<=i->i<n->b[i]? =some y->le κ x y):Hl κ a b (out++(b.extract d n).reverse) (na+1) d:=(OY (Hh.swap h) sb sa hd hn hx Bc).swap
theorem OX{a b out:Array Keyed}{na nb:Nat}(h:Hl κ a b out na nb)(sb:b.toList.Pairwise (le κ))(e:(na==0)=true):AI κ a b (a.extract 0 na++b.extract 0 nb++out.reverse):=by
 unfold AI
 have e':na=0:=eq_of_beq e
 subst e'
 rw[V4,V4,JQ,QB,QB]
 exact Hh.fin h (Z0 _) (by rw[M6,List.nil_append];exact sb.take)
theorem QcZ{a b out:Array Keyed}{na nb:Nat}(h:Hl κ a b out na nb)(sa:a.toList.Pairwise (le κ))(e:(nb==0)=true):AI κ a b (a.extract 0 na++b.extract 0 nb++out.reverse):=by
 unfold AI
 have e':nb=0:=eq_of_beq e
 subst e'
 rw[V4,V4,JQ,QB,QB]
 exact Hh.fin h (Z0 _) (by rw[M6,List.append_nil];exact sa.take)
theorem Js{a b out:Array Keyed}{na nb:Nat}(h:Hl κ a b out na nb)(sa:a.toList.Pairwise (le κ))(h0:∀x,b[0]? =some x->∀y∈a.toList,le κ x y)(e:(nb==1)=true):AI κ a b (b.extract 0 nb++a.extract 0 na++out.reverse):=by
 unfold AI
 have e':nb=1:=eq_of_beq e
 subst e'
 rw[V4,V4,JQ,QB,QB]
 refine Hh.fin h CI ?_
 rw[AD]
 refine⟨?_,sa.take,fun x hx y hy=> ?_⟩
 ·cases b.toList with
  |nil=>exact List.Pairwise.nil
  |cons z l=>exact GZ _ _
 ·obtain⟨j,hj,ex⟩:=Cu hx
  have:j=0:=by omega
  subst this
  exact h0 x (by rw[<-tl];exact ex) y (VD hy)
structure Hd(κ:KeyKind)(a b out:Array Keyed)(na nb:Nat):Prop where
 g:Hl κ a b out na nb
 na1:1<=na
 nb2:2<=nb
 la:na<=a.size
 lb:nb<=b.size
abbrev D1:=Option (Array Keyed)×Nat×Nat×Array Keyed×Nat×Nat
abbrev D2:=Option (Array Keyed)×Nat×Nat×Array Keyed×Nat×Nat×Nat
def S1(κ:KeyKind)(a b:Array Keyed)(st:SortSt)(n:Nat)(c:D1)(st':SortSt):Prop:=SG st st'/\((∃r,c.1=some r/\AI κ a b r)\/(c.1=none/\Hd κ a b c.2.2.2.1 c.2.1 c.2.2.1/\c.2.1+c.2.2.1+n<=a.size+b.size))
def S2(κ:KeyKind)(a b:Array Keyed)(st:SortSt)(n:Nat)(c:D2)(st':SortSt):Prop:=SG st st'/\((∃r,c.1=some r/\AI κ a b r)\/(c.1=none/\Hd κ a b c.2.2.2.1 c.2.1 c.2.2.1/\c.2.1+c.2.2.1+n<=a.size+b.size))
def L1(κ:KeyKind)(a b:Array Keyed)(st:SortSt)(n j:Nat)(c:D1)(st':SortSt):Prop:=SG st st'/\c.1=none/\Hd κ a b c.2.2.2.1 c.2.1 c.2.2.1/\c.2.1+c.2.2.1+(n+j)<=a.size+b.size
def L2(κ:KeyKind)(a b:Array Keyed)(st:SortSt)(n j:Nat)(c:D2)(st':SortSt):Prop:=SG st st'/\c.1=none/\Hd κ a b c.2.2.2.1 c.2.1 c.2.2.1/\c.2.1+c.2.2.1+n<=a.size+b.size
def L0(κ:KeyKind)(a b:Array Keyed)(st:SortSt)(i:Nat)(c:Option (Array Keyed)×Nat×Nat×Array Keyed×Nat)(st':SortSt):Prop:=SG st st'/\c.1=none/\Hd κ a b c.2.2.2.1 c.2.1 c.2.2.1/\c.2.1+c.2.2.1+(i+1)<=a.size+b.size
theorem Zi(ho:EV κ kd prog w A s){st:SortSt}{a b:Array Keyed}{Q:Array Keyed->SortSt->Prop}(hk:kindOf st=kd)(hHa:∀p∈a.toList,Fj κ p)(hHb:∀p∈b.toList,Fj κ p)(sa:a.toList.Pairwise (le κ))(sb:b.toList.Pairwise (le κ))(na:1<=a.size)(nb:1<=b.size)
  (h0:∀x,b[0]? =some x->∀y∈a.toList,le κ x y)(hl:∀x,a[a.size-1]? =some x->∀y∈b.toList,le κ y x)
  (q:∀r st',SG st st'->AI κ a b r->Q r st'):wpS (model prog w) A E s (mhi a b) Q st:=by
 obtain⟨a0,ha0⟩:=U1 (a:=a) (i:=a.size-1) (by omega)
 have g0:Hl κ a b (#[a0]:Array Keyed) (a.size-1) b.size:=by
  have g:Hl κ a b (#[]:Array Keyed) (a.size-1+1) (b.size-1+1):=⟨by rw[GX (by rw[Y8];omega),GX (by rw[Y8];omega)];exact Z0 _,List.Pairwise.nil,fun x _ y hy=>by cases hy⟩
  obtain⟨y,hy⟩:=U1 (a:=b) (i:=b.size-1) (by omega)
  have:=Jq g sa sb ha0 hy (hl a0 ha0 y (V1 hy))
  rw[show b.size-1+1=b.size by omega] at this
  exact this
 have soA:∀i j x y,i<=j->a[i]? =some x->a[j]? =some y->le κ x y:=fun i j x y Hy hx hy=>P5 sa Hy (by rw[tl];exact hx) (by rw[tl];exact hy)
 have soB:∀i j x y,i<=j->b[i]? =some x->b[j]? =some y->le κ x y:=fun i j x y Hy hx hy=>P5 sb Hy (by rw[tl];exact hx) (by rw[tl];exact hy)
 refine j8 (DC (ES ⟨rfl,?_⟩))
 refine j8 (C5 ha0 ?_)
 refine l7 (fun h=>j4 (q _ _ (SG.refl _) (OX g0 sb h))) (fun h=>l7 (fun h2=>j4 (q _ _ (SG.refl _) (Js g0 sa h0 h2))) (fun h2=>j8 (Bi ?_)))
 have n1:¬a.size-1=0:=fun e=>h (by rw[e];rfl)
 have n2:¬b.size=1:=fun e=>h2 (by rw[e];rfl)
 refine S7 (Q1:=fun c st'=>SG st st'/\∃r,c.1=some r/\AI κ a b r) (S9 (L0 κ a b st) ?_ ?_ ⟨SG.refl _,rfl,⟨g0,by show 1<=a.size-1;omega,by show 2<=b.size;omega,by show a.size-1<=a.size;omega,l9 _⟩,by show a.size-1+b.size+(0+1)<=a.size+b.size;omega⟩) ?_
 ·rintro i ⟨o,ia,ib,out,mg⟩ st' _ hi ⟨s1,e1,gd,hn⟩
  dsimp only at e1 gd hn
  refine S7 (Q1:=S1 κ a b st (i+2)) (S9 (L1 κ a b st (i+1)) ?_ ?_ ⟨s1,rfl,gd,hn⟩) ?_
  ·rintro j ⟨o,ja,jb,out,ac,bc⟩ st2 _ hj ⟨s2,e2,gd,hn2⟩
   dsimp only at e2 gd hn2
   obtain⟨ja,rfl⟩:∃n,ja=n+1:=⟨ja-1,by have:=gd.na1;omega⟩
   obtain⟨jb,rfl⟩:∃n,jb=n+1:=⟨jb-1,by have:=gd.nb2;omega⟩
   have lA:=gd.la
   have lB:=gd.lb
   have l2:=gd.nb2
   obtain⟨x,hx⟩:=U1 (a:=a) (i:=ja) (by omega)
   obtain⟨y,hy⟩:=U1 (a:=b) (i:=jb) (by omega)
   refine j8 (C5 hy (j8 (C5 hx (j8 (Ke ho (s2.ki.trans hk) (hHb _ (V1 hy)) (hHa _ (V1 hx)) ?_)))))
   refine l7 (fun hb=>j8 (C5 hx ?_)) (fun hb=>j8 (C5 hy ?_))
   ·have g1:=Jq gd.g sa sb hx hy (Ec hb)
    refine l7 (fun e=>j4 ⟨s2, .inl ⟨_,rfl,OX g1 sb e⟩⟩) (fun e=> ?_)
    have ne:¬ja=0:=fun e'=>e (by show (ja==0)=true;rw[e'];rfl)
    have gd1:Hd κ a b (out.push x) ja (jb+1):=⟨g1,by omega,l2,by omega,lB⟩
    exact l7 (fun _=>j4 ⟨s2, .inr ⟨rfl,gd1,by show ja+(jb+1)+(i+2)<=a.size+b.size;omega⟩⟩) (fun _=>j4 ⟨s2,rfl,gd1,by show ja+(jb+1)+(i+1+(j+1))<=a.size+b.size;omega⟩)
   ·have g1:=Uv gd.g sa sb hx hy (Ao (by simpa using hb))
    refine l7 (fun e=>j4 ⟨s2, .inl ⟨_,rfl,Js g1 sa h0 e⟩⟩) (fun e=> ?_)
    have ne:¬jb=1:=fun e'=>e (by show (jb==1)=true;rw[e'];rfl)
    have gd1:Hd κ a b (out.push y) (ja+1) jb:=⟨g1,by omega,by omega,lA,by omega⟩
    exact l7 (fun _=>j4 ⟨s2, .inr ⟨rfl,gd1,by show ja+1+jb+(i+2)<=a.size+b.size;omega⟩⟩) (fun _=>j4 ⟨s2,rfl,gd1,by show ja+1+jb+(i+1+(j+1))<=a.size+b.size;omega⟩)
  ·rintro⟨o,ja,jb,out,ac,bc⟩ st2 ⟨s2,e2,gd,hn2⟩
   dsimp only at e2 gd hn2
   exact⟨s2, .inr ⟨e2,gd,by show ja+jb+(i+2)<=a.size+b.size;omega⟩⟩
  ·rintro⟨o,ja,jb,out,ac,bc⟩ st2 ⟨s2,⟨r,e2,hr⟩|⟨e2,gd,hn2⟩⟩
   ·dsimp only at e2
    subst e2
    exact j4 ⟨s2,r,rfl,hr⟩
   ·dsimp only at e2 gd hn2
    subst e2
    refine j8 (DC (ES ⟨rfl,?_⟩))
    refine S7 (Q1:=S2 κ a b st (i+2)) (S9 (L2 κ a b st (i+2)) ?_ ?_ ⟨s2,rfl,gd,hn2⟩) ?_
    ·clear gd hn2
     rintro j ⟨o,ja,jb,out,mg2,ac,bc⟩ st3 _ hj ⟨s3,e3,gd,hn3⟩
     dsimp only at e3 gd hn3
     obtain⟨jb,rfl⟩:∃n,jb=n+1:=⟨jb-1,by have:=gd.nb2;omega⟩
     have lA:=gd.la
     have lB:=gd.lb
     have l1:=gd.na1
     have l2:=gd.nb2
     obtain⟨y,hy⟩:=U1 (a:=b) (i:=jb) (by omega)
     refine l7 (fun _=> ?_) (fun _=> ?_)<;>{
      refine j8 (IB fun st4 s4=> ?_)
      have s34:=s3.trans s4
      have k4:=s34.ki.trans hk
      refine j8 (C5 hy (j8 (ID ho k4 hHa (hHb _ (V1 hy)) (by show 0+ja<=a.size;omega) (by show ja-1<ja;omega) (fun i j x y _ Hy _ hx hy=>soA i j x y Hy hx hy) fun d (k1:d<=ja) (k2:∀i x,i<d->a[0+i]? =some x->le κ x y) (k3:∀i x,d<=i->i<ja->a[0+i]? =some x->le κ y x)=> ?_)))
      have gk:=OY (d:=d) gd.g sa sb k1 lA hy (fun i x h1 h2 hx=>k3 i x h1 h2 (by rw[Dz];exact hx))
      refine l7 (fun hk0=>l7 (fun e=>j4 ⟨s34, .inl ⟨_,rfl,OX gk sb e⟩⟩) fun e=> ?_) (fun hk0=> ?_)
      have ne1:¬d=0:=fun e'=>e (by show (d==0)=true;rw[e'];rfl)
      dsimp only
      obtain⟨o2,ka,hO,hK,gk',K1,K2,C1,hn4⟩:∃(o2:Array Keyed) (ka:Nat),o2=out++(a.extract d ja).reverse/\ka=d/\Hl κ a b o2 ka (jb+1)/\1<=ka/\ka<=a.size/\(∀i x,i<ka->a[i]? =some x->le κ x y)/\ka+jb+1+(i+2)<=a.size+b.size:=⟨_,_,rfl,rfl,gk,by omega,by omega,fun i x h1 hx=>k2 i x h1 (by rw[Dz];exact hx),by omega⟩
      rw[<-hO,<-hK]
      rotate_left
      have ek:d=ja:=by
       have h9:¬ja-d>0:=hk0
       omega
      subst ek
      dsimp only
      obtain⟨o2,ka,hO,hK,gk',K1,K2,C1,hn4⟩:∃(o2:Array Keyed) (ka:Nat),o2=out/\ka=d/\Hl κ a b o2 ka (jb+1)/\1<=ka/\ka<=a.size/\(∀i x,i<ka->a[i]? =some x->le κ x y)/\ka+jb+1+(i+2)<=a.size+b.size:=⟨out,d,rfl,rfl,gd.g,l1,lA,fun i x h1 hx=>k2 i x h1 (by rw[Dz];exact hx),by omega⟩
      rw[<-hO,<-hK]
      all_goals
       obtain⟨kp,rfl⟩:∃n,ka=n+1:=⟨ka-1,by omega⟩
       obtain⟨x,hx⟩:=U1 (a:=a) (i:=kp) (by omega)
       refine j8 (C5 hy ?_)
       have g1:=Uv gk' sa sb hx hy (C1 kp x (by omega) hx)
       refine l7 (fun e=>j4 ⟨s34, .inl ⟨_,rfl,Js g1 sa h0 e⟩⟩) (fun e=> ?_)
       have ne:¬jb=1:=fun e'=>e (by show (jb==1)=true;rw[e'];rfl)
       refine j8 (C5 hx (j8 (IE ho k4 hHb (hHa _ (V1 hx)) (by show 0+jb<=b.size;omega) (by show jb-1<jb;omega) (fun i j x y _ Hy _ hx hy=>soB i j x y Hy hx hy) fun c (m1:c<=jb) (m2:∀i y,i<c->b[0+i]? =some y->le κ y x) (m3:∀i y,c<=i->i<jb->b[0+i]? =some y->le κ x y)=> ?_)))
       have g2:=Xv (d:=c) g1 sa sb m1 (by omega) hx (fun i y h1 h2 hy=>m3 i y h1 h2 (by rw[Dz];exact hy))
       have fin3:∀(o3:Array Keyed) (jc:Nat),Hl κ a b o3 (kp+1) jc->2<=jc->jc<=jb->(∀z,b[jc-1]? =some z->le κ z x)->((kp==0)=true->AI κ a b (a.extract 0 kp++b.extract 0 jc++(o3.push x).reverse))/\(¬(kp==0)=true->Hd κ a b (o3.push x) kp jc/\kp+jc+(i+2)<=a.size+b.size):=fun o3 jc h1 h2 h3 h4=>by
        obtain⟨jc,rfl⟩:∃n,jc=n+1:=⟨jc-1,by omega⟩
        obtain⟨z,hz⟩:=U1 (a:=b) (i:=jc) (by omega)
        have g3:=Jq h1 sa sb hx hz (h4 z (by rw[Hb];exact hz))
        exact⟨fun e5=>OX g3 sb e5,fun e5=>⟨⟨g3,by have:¬kp=0:=fun e'=>e5 (by rw[e'];rfl);omega,h2,by omega,by omega⟩,by omega⟩⟩
       refine l7 (fun h5=>l7 (fun e3=>j4 ⟨s34, .inl ⟨_,rfl,Js g2 sa h0 e3⟩⟩) fun e3=>l7 (fun e4=>j4 ⟨s34, .inl ⟨_,rfl,QcZ g2 sa e4⟩⟩) fun e4=>j8 (C5 hx ?_)) (fun h5=>j8 (C5 hx ?_))
       ·have ne3:¬c=1:=fun e'=>e3 (by show (c==1)=true;rw[e'];rfl)
        have ne4:¬c=0:=fun e'=>e4 (by show (c==0)=true;rw[e'];rfl)
        have f3:=fin3 _ _ g2 (by omega) (by omega) (fun z hz=>m2 (c-1) z (by omega) (by rw[Dz];exact hz))
        exact l7 (fun e5=>j4 ⟨s34, .inl ⟨_,rfl,f3.1 e5⟩⟩) (fun e5=>l7 (fun _=>j4 ⟨s34, .inr ⟨rfl,f3.2 e5⟩⟩) (fun _=>j4 ⟨s34,rfl,f3.2 e5⟩))
       ·have ec:c=jb:=by
         have h9:¬jb-c>0:=h5
         omega
        have f3:=fin3 _ _ g1 (by omega) (l9 _) (fun z hz=>m2 (jb-1) z (by omega) (by rw[Dz];exact hz))
        exact l7 (fun e5=>j4 ⟨s34, .inl ⟨_,rfl,f3.1 e5⟩⟩) (fun e5=>l7 (fun _=>j4 ⟨s34, .inr ⟨rfl,f3.2 e5⟩⟩) (fun _=>j4 ⟨s34,rfl,f3.2 e5⟩))
     }
    ·rintro⟨o,ja,jb,out,mg2,ac,bc⟩ st3 ⟨s3,e3,gd,hn3⟩
     exact⟨s3, .inr ⟨e3,gd,hn3⟩⟩
    ·rintro⟨o,ja,jb,out,mg2,ac,bc⟩ st3 ⟨s3,⟨r,e3,hr⟩|⟨e3,gd,hn3⟩⟩
     ·dsimp only at e3
      subst e3
      exact j4 ⟨s3,r,rfl,hr⟩
     ·dsimp only at e3 gd hn3
      subst e3
      exact j8 (IB fun st4 s4=>j4 ⟨s3.trans s4,rfl,gd,by show ja+jb+(i+1+1)<=a.size+b.size;omega⟩)
 ·rintro⟨o,ia,ib,out,mg⟩ st' ⟨s1,e1,gd,hn⟩
  dsimp only at e1 gd hn
  exact absurd gd.na1 (by omega)
 ·rintro⟨o,ia,ib,out,mg⟩ st' ⟨s1,r,e1,hr⟩
  dsimp only at e1
  subst e1
  exact j4 (q r st' s1 hr)
theorem Zg{x st:SortSt}{Q:PUnit->SortSt->Prop}(q:Q PUnit.unit x):wpS (model prog w) A E s (set x) Q st:=DA (f:=fun _=>x) q
theorem HB:∀(M:List Keyed) (n t:Nat) (arr:Array Keyed),t+n+M.length<=arr.size->(List.foldl (fun a (x:Keyed×Nat)=>match x with|(p,j)=>a.setIfInBounds (t+j) p) arr (M.zipIdx n)).toList=arr.toList.take (t+n)++M++arr.toList.drop (t+n+M.length)
 |[],n,t,arr,_=>by simp
 |x::M,n,t,arr,h=>by
  rw[List.length_cons] at h
  rw[List.zipIdx_cons,List.foldl_cons]
  have ih:=HB M (n+1) t (arr.setIfInBounds (t+n) x) (by rw[Array.size_setIfInBounds];omega)
  rw[ih,VC]
  have h1:(arr.toList.set (t+n) x).take (t+(n+1))=arr.toList.take (t+n)++[x]:=by
   rw[show t+(n+1)=t+n+1 by omega,q9,List.take_set_of_le (l9 _),Vo (by rw[Y8];omega)]
   rfl
  have h2:(arr.toList.set (t+n) x).drop (t+(n+1)+M.length)=arr.toList.drop (t+n+(M.length+1)):=by
   rw[List.drop_set_of_lt (by omega),show t+(n+1)+M.length=t+n+(M.length+1) by omega]
  rw[h1,h2,List.length_cons]
  simp
def Bn(l:List Keyed)(lo hi:Nat):List Keyed:=(l.drop lo).take (hi-lo)
theorem seg_at{l:List Keyed}{lo hi i:Nat}{x:Keyed}(h1:lo<=i)(h2:i<hi)(hx:l[i]? =some x):(Bn l lo hi)[i-lo]? =some x:=by
 unfold Bn
 rw[CK,if_pos (by omega),Bk,show lo+(i-lo)=i by omega]
 exact hx
theorem Aj{l:List Keyed}{lo hi:Nat}{x:Keyed}(h:x∈Bn l lo hi):∃i,lo<=i/\i<hi/\l[i]? =some x:=by
 obtain⟨j,hj,ex⟩:=Cu h
 rw[Bk] at ex
 exact⟨lo+j,by omega,by omega,ex⟩
theorem Sw{l:List Keyed}{lo hi i j:Nat}{x y:Keyed}(h:(Bn l lo hi).Pairwise (le κ))(h1:lo<=i)(h2:i<=j)(h3:j<hi)(hx:l[i]? =some x)(hy:l[j]? =some y):le κ x y:=
 P5 h (by omega) (seg_at h1 (by omega) hx) (seg_at (by omega) h3 hy)
theorem Fn{l:List Keyed}{lo hi lo' hi':Nat}(h:(Bn l lo hi).Pairwise (le κ))(h1:lo<=lo')(h2:hi'<=hi)(h3:lo'<=hi'):(Bn l lo' hi').Pairwise (le κ):=by
 have e:Bn l lo' hi'=((Bn l lo hi).drop (lo'-lo)).take (hi'-lo'):=by
  unfold Bn
  rw[List.drop_take,JP,List.take_take,show lo+(lo'-lo)=lo' by omega,Ha (by omega)]
 rw[e]
 exact h.drop.take
theorem Ev(l:List Keyed){a b c:Nat}(h1:a<=b)(h2:b<=c):Bn l a c=Bn l a b++Bn l b c:=by
 unfold Bn
 rw[show c-a=(b-a)+(c-b) by omega,List.take_add,JP,show a+(b-a)=b by omega]
theorem Cc(l:List Keyed){a b:Nat}(h1:a<=b):l=l.take a++Bn l a b++l.drop b:=by
 unfold Bn
 rw[o5,show l.drop b=(l.drop a).drop (b-a) by rw[JP,show a+(b-a)=b by omega],Bh,Bh]
theorem Md(ho:EV κ kd prog w A s){st:SortSt}{i sa na pw sb nb pw2:Nat}{Q:Bool->SortSt->Prop}(hk:kindOf st=kd)(hf:failedOf st=none)(hH:∀p∈(arrOf st).toList,Fj κ p)(hp1:(pendingOf st)[i]? =some (sa,na,pw))(hp2:(pendingOf st)[i+1]? =some (sb,nb,pw2))(hsb:sb=sa+na)(hna:1<=na)(hnb:1<=nb)(hsz:sb+nb<=(arrOf st).size)
  (s1:(Bn (arrOf st).toList sa sb).Pairwise (le κ))(s2:(Bn (arrOf st).toList sb (sb+nb)).Pairwise (le κ))
  (q:∀st' R,kindOf st'=kd->failedOf st'=none->pendingOf st'=((pendingOf st).setIfInBounds i (sa,na+nb,pw)).eraseIdxIfInBounds (i+1)->(arrOf st').toList=(arrOf st).toList.take sa++R++(arrOf st).toList.drop (sb+nb)->R.Perm (Bn (arrOf st).toList sa (sb+nb))->R.Pairwise (le κ)->Q true st'):wpS (model prog w) A E s (mergeAt' i) Q st:=by
 refine j8 (Bi ?_)
 rw[hp1,hp2]
 refine j8 (Zg ?_)
 subst hsb
 have lz:(arrOf st).toList.length=(arrOf st).size:=Y8 _
 have so1:∀i j x y,sa<=i->i<=j->j<sa+na->(arrOf st)[i]? =some x->(arrOf st)[j]? =some y->le κ x y:=fun i j x y h1 h2 h3 hx hy=>Sw s1 h1 h2 h3 (by rw[tl];exact hx) (by rw[tl];exact hy)
 have so2:∀i j x y,sa+na<=i->i<=j->j<sa+na+nb->(arrOf st)[i]? =some x->(arrOf st)[j]? =some y->le κ x y:=fun i j x y h1 h2 h3 hx hy=>Sw s2 h1 h2 h3 (by rw[tl];exact hx) (by rw[tl];exact hy)
 have sp:=Ev (arrOf st).toList (a:=sa) (b:=sa+na) (c:=sa+na+nb) (by omega) (by omega)
 obtain⟨y0,hy0⟩:=U1 (a:=arrOf st) (i:=sa+na) (by omega)
 refine j8 (C5 hy0 (j8 (ID ho hk hH (hH _ (V1 hy0)) (by show sa+na<=(arrOf st).size;omega) (by omega) so1 fun k k1 k2 k3=> ?_)))
 refine l7 (fun e=>j4 (q _ (Bn (arrOf st).toList sa (sa+na+nb)) hk hf rfl (Cc _ (by omega)) (Z0 _) ?_)) (fun e=> ?_)
 ·have ek:k=na:=by have:=eq_of_beq e;omega
  rw[sp,AD]
  refine⟨s1,s2,fun x hx y hy=> ?_⟩
  obtain⟨i1,l1,l2,ex⟩:=Aj hx
  obtain⟨i2,l3,l4,ey⟩:=Aj hy
  rw[tl] at ex ey
  exact le_trans (k2 (i1-sa) x (by omega) (by rw[show sa+(i1-sa)=i1 by omega];exact ex)) (so2 _ i2 y0 y (l9 _) l3 l4 hy0 ey)
 have nk:¬na-k=0:=fun e'=>e (by rw[e'];rfl)
 obtain⟨xl,De⟩:=U1 (a:=arrOf st) (i:=sa+k+(na-k)-1) (by omega)
 refine j8 (C5 De (j8 (IE ho hk hH (hH _ (V1 De)) (by omega) (by omega) so2 fun c c1 c2 c3=> ?_)))
 have exl:sa+k+(na-k)-1=sa+na-1:=by omega
 rw[exl] at De
 refine l7 (fun e2=>j4 (q _ (Bn (arrOf st).toList sa (sa+na+nb)) hk hf rfl (Cc _ (by omega)) (Z0 _) ?_)) (fun e2=> ?_)
 ·have ec:c=0:=eq_of_beq e2
  rw[sp,AD]
  refine⟨s1,s2,fun x hx y hy=> ?_⟩
  obtain⟨i1,l1,l2,ex⟩:=Aj hx
  obtain⟨i2,l3,l4,ey⟩:=Aj hy
  rw[tl] at ex ey
  exact le_trans (so1 i1 _ x xl l1 (by omega) (by omega) ex De) (c3 (i2-(sa+na)) y (by omega) (by omega) (by rw[show sa+na+(i2-(sa+na))=i2 by omega];exact ey))
 have nc:¬c=0:=fun e'=>e2 (by rw[e'];rfl)
 have eA:((arrOf st).extract (sa+k) (sa+na)).toList=Bn (arrOf st).toList (sa+k) (sa+na):=Xx _ _ _
 have eB:((arrOf st).extract (sa+na) (sa+na+c)).toList=Bn (arrOf st).toList (sa+na) (sa+na+c):=Xx _ _ _
 have lA:((arrOf st).extract (sa+k) (sa+na)).size=na-k:=by rw[VB];omega
 have lB:((arrOf st).extract (sa+na) (sa+na+c)).size=c:=by rw[VB];omega
 have memA:∀z∈((arrOf st).extract (sa+k) (sa+na)).toList,∃i,sa+k<=i/\i<sa+na/\(arrOf st)[i]? =some z:=fun z hz=>by
  rw[eA] at hz
  obtain⟨i1,l1,l2,ex⟩:=Aj hz
  exact⟨i1,l1,l2,by rw[<-tl];exact ex⟩
 have memB:∀z∈((arrOf st).extract (sa+na) (sa+na+c)).toList,∃i,sa+na<=i/\i<sa+na+c/\(arrOf st)[i]? =some z:=fun z hz=>by
  rw[eB] at hz
  obtain⟨i1,l1,l2,ex⟩:=Aj hz
  exact⟨i1,l1,l2,by rw[<-tl];exact ex⟩
 have hHa:∀p∈((arrOf st).extract (sa+k) (sa+na)).toList,Fj κ p:=fun p hp=>by obtain⟨_,_,_,ex⟩:=memA p hp;exact hH p (V1 ex)
 have hHb:∀p∈((arrOf st).extract (sa+na) (sa+na+c)).toList,Fj κ p:=fun p hp=>by obtain⟨_,_,_,ex⟩:=memB p hp;exact hH p (V1 ex)
 have sA:((arrOf st).extract (sa+k) (sa+na)).toList.Pairwise (le κ):=by rw[eA];exact Fn s1 (by omega) (l9 _) (by omega)
 have sB:((arrOf st).extract (sa+na) (sa+na+c)).toList.Pairwise (le κ):=by rw[eB];exact Fn s2 (l9 _) (by omega) (by omega)
 have h0:∀x,((arrOf st).extract (sa+na) (sa+na+c))[0]? =some x->∀y∈((arrOf st).extract (sa+k) (sa+na)).toList,le κ x y:=fun x hx y hy=>by
  have ex:x=y0:=by
   rw[<-tl,eB] at hx
   have:=seg_at (lo:=sa+na) (hi:=sa+na+c) (l9 _) (by omega) (by rw[tl];exact hy0)
   rw[JO,hx] at this
   exact Ab this
  obtain⟨i1,l1,l2,ey⟩:=memA y hy
  rw[ex]
  exact k3 (i1-sa) y (by omega) (by omega) (by rw[show sa+(i1-sa)=i1 by omega];exact ey)
 have hl:∀x,((arrOf st).extract (sa+k) (sa+na))[((arrOf st).extract (sa+k) (sa+na)).size-1]? =some x->∀y∈((arrOf st).extract (sa+na) (sa+na+c)).toList,le κ y x:=fun x hx y hy=>by
  have ex:x=xl:=by
   rw[<-tl,eA,lA] at hx
   have:=seg_at (lo:=sa+k) (hi:=sa+na) (i:=sa+na-1) (by omega) (by omega) (by rw[tl];exact De)
   rw[show sa+na-1-(sa+k)=na-k-1 by omega,hx] at this
   exact Ab this
  obtain⟨i1,l1,l2,ey⟩:=memB y hy
  rw[ex]
  exact c2 (i1-(sa+na)) y (by omega) (by rw[show sa+na+(i1-(sa+na))=i1 by omega];exact ey)
 have eas:sa+k+(na-k)=sa+na:=by omega
 have fin:∀(r:Array Keyed),AI κ ((arrOf st).extract (sa+k) (sa+na)) ((arrOf st).extract (sa+na) (sa+na+c)) r->∃R:List Keyed,(List.foldl (fun a (x:Keyed×Nat)=>match x with|(p,j)=>a.setIfInBounds (sa+k+j) p) (arrOf st) r.toList.zipIdx).toList=(arrOf st).toList.take sa++R++(arrOf st).toList.drop (sa+na+nb)/\R.Perm (Bn (arrOf st).toList sa (sa+na+nb))/\R.Pairwise (le κ):=fun r hr=>by
  obtain⟨pr,sr⟩:=hr
  rw[eA,eB] at pr
  have lr:r.toList.length=(na-k)+c:=by
   have h1:=pr.length_eq
   have h2:=congrArg List.length eA
   have h3:=congrArg List.length eB
   rw[Y8,lA] at h2
   rw[Y8,lB] at h3
   rw[l0] at h1
   omega
  refine⟨Bn (arrOf st).toList sa (sa+k)++r.toList++Bn (arrOf st).toList (sa+na+c) (sa+na+nb),?_,?_,?_⟩
  ·rw[HB r.toList 0 (sa+k) (arrOf st) (by omega),lr,show sa+k+0+((na-k)+c)=sa+na+c by omega,Nv]
   have t1:(arrOf st).toList.take (sa+k)=(arrOf st).toList.take sa++Bn (arrOf st).toList sa (sa+k):=by
    unfold Bn
    rw[<-List.take_add,show sa+(sa+k-sa)=sa+k by omega]
   have t2:(arrOf st).toList.drop (sa+na+c)=Bn (arrOf st).toList (sa+na+c) (sa+na+nb)++(arrOf st).toList.drop (sa+na+nb):=by
    unfold Bn
    rw[show (arrOf st).toList.drop (sa+na+nb)=((arrOf st).toList.drop (sa+na+c)).drop (sa+na+nb-(sa+na+c)) by rw[JP,show sa+na+c+(sa+na+nb-(sa+na+c))=sa+na+nb by omega],Bh]
   rw[t1,t2]
   simp
  ·rw[sp,Ev _ (a:=sa) (b:=sa+k) (c:=sa+na) (by omega) (by omega),Ev _ (a:=sa+na) (b:=sa+na+c) (c:=sa+na+nb) (by omega) (by omega)]
   have:=(pr.append_left (Bn (arrOf st).toList sa (sa+k))).append_right (Bn (arrOf st).toList (sa+na+c) (sa+na+nb))
   simpa using this
  ·have inR:∀z∈r.toList,(∃i,sa+k<=i/\i<sa+na/\(arrOf st)[i]? =some z)\/∃i,sa+na<=i/\i<sa+na+c/\(arrOf st)[i]? =some z:=fun z hz=>by
    rcases U3.mp (pr.mem_iff.mp hz) with h|h
    ·exact .inl (memA z (by rw[eA];exact h))
    ·exact .inr (memB z (by rw[eB];exact h))
   have lo:∀x∈Bn (arrOf st).toList sa (sa+k),∀i y,sa+na<=i->i<sa+na+nb->(arrOf st)[i]? =some y->le κ x y:=fun x hx i y l1 l2 ey=>by
    obtain⟨i1,l3,l4,ex⟩:=Aj hx
    rw[tl] at ex
    exact le_trans (k2 (i1-sa) x (by omega) (by rw[show sa+(i1-sa)=i1 by omega];exact ex)) (so2 _ i y0 y (l9 _) l1 l2 hy0 ey)
   rw[AD,AD]
   refine⟨⟨Fn s1 (l9 _) (by omega) (by omega),sr,fun x hx y hy=> ?_⟩,Fn s2 (by omega) (l9 _) (by omega),fun x hx y hy=> ?_⟩
   ·rcases inR y hy with ⟨i2,l1,l2,ey⟩|⟨i2,l1,l2,ey⟩
    ·obtain⟨i1,l3,l4,ex⟩:=Aj hx
     rw[tl] at ex
     exact so1 i1 i2 x y l3 (by omega) l2 ex ey
    ·exact lo x hx i2 y l1 (by omega) ey
   ·obtain⟨i2,l1,l2,ey⟩:=Aj hy
    rw[tl] at ey
    rcases U3.mp hx with h|h
    ·exact lo x h i2 y (by omega) l2 ey
    ·rcases inR x h with ⟨i1,l3,l4,ex⟩|⟨i1,l3,l4,ex⟩
     ·exact le_trans (so1 i1 _ x xl (by omega) (by omega) (by omega) ex De) (c3 (i2-(sa+na)) y (by omega) (by omega) (by rw[show sa+na+(i2-(sa+na))=i2 by omega];exact ey))
     ·exact so2 i1 i2 x y l3 (by omega) l2 ex ey
 refine l7 (fun _=>j8 (Zh ho hk hHa hHb sA sB (by rw[lA];omega) (by rw[lB];omega) h0 hl fun r st' g hr=> ?_)) (fun _=>j8 (Zi ho hk hHa hHb sA sB (by rw[lA];omega) (by rw[lB];omega) h0 hl fun r st' g hr=> ?_))
 all_goals
  refine j8 (DA (j8 (Bi ?_)))
  obtain⟨R,f1,f2,f3⟩:=fin r hr
  have ef:failedOf st'=none:=g.fa.trans hf
  have q':=q (SortSt.mk' (kindOf st') (List.foldl (fun a (x:Keyed×Nat)=>match x with|(p,j)=>a.setIfInBounds (sa+k+j) p) (arrOf st') r.toList.zipIdx) (pendingOf st') (gallopOf st') (failedOf st')) R (g.ki.trans hk) ef g.pe (by show (List.foldl _ (arrOf st') _).toList=_;rw[g.ar];exact f1) f2 f3
  refine j4 ?_
  show Q (failedOf st').isNone _
  rw[ef]
  exact q'
structure B(kd:SortKind)(U9 st:SortSt)(lo:Nat):Prop where
 ki:kindOf st=kd
 fa:failedOf st=none
 pe:pendingOf st=pendingOf U9
 pm:(arrOf st).Perm (arrOf U9)
 be:∀k,k<lo->(arrOf st)[k]? =(arrOf U9)[k]?
theorem B.sz{U9 st:SortSt}{lo:Nat}(h:B kd U9 st lo):(arrOf st).size=(arrOf U9).size:=h.pm.size_eq
theorem B.has{U9 st:SortSt}{lo:Nat}(h:B kd U9 st lo)(hH:∀p∈(arrOf U9).toList,Fj κ p):∀p∈(arrOf st).toList,Fj κ p:=fun p hp=>hH p ((Nu.mp h.pm).mem_iff.mp hp)
def SK(κ:KeyKind)(a:Array Keyed)(lo hi:Nat):Prop:=∀i j,lo<=i->i<=j->j<hi->κ.kle (KK κ a i) (KK κ a j)
theorem CL(ho:EV κ kd prog w A s){U9 st:SortSt}{lo i j:Nat}{Q:Option Bool->SortSt->Prop}(hb:B kd U9 st lo)(hH:∀p∈(arrOf U9).toList,Fj κ p)(hi:i<(arrOf U9).size)(hj:j<(arrOf U9).size)(q:Q (some (κ.blt (KK κ (arrOf st) i) (KK κ (arrOf st) j))) st):wpS (model prog w) A E s (ltAt' i j) Q st:=by
 obtain⟨x,hx⟩:=U1 (a:=arrOf st) (i:=i) (by rw[hb.sz];exact hi)
 obtain⟨y,hy⟩:=U1 (a:=arrOf st) (i:=j) (by rw[hb.sz];exact hj)
 obtain⟨a,ha⟩:=hb.has hH x (V1 hx)
 obtain⟨b,hb'⟩:=hb.has hH y (V1 hy)
 rw[ltAt'_eq]
 refine j8 (Bi ?_)
 show wpS _ _ _ _ (do let x<-elem' (arrOf st) i;let y<-elem' (arrOf st) j;lt' x y) Q st
 refine j8 (C5 hx (j8 (C5 hy (Ke ho hb.ki ⟨a,ha⟩ ⟨b,hb'⟩ ?_))))
 rw[AH hx,AH hy] at q
 exact q
theorem Wh{st:SortSt}{src dst:Nat}{Q:Unit->SortSt->Prop}(q:Q () (setArr st (bubble (arrOf st) src (src-dst)))):wpS (model prog w) A E s (moveDown' src dst) Q st:=by
 rw[moveDown'_eq]
 exact DA q
abbrev BI:=Option Bool×Nat×Nat
def bi(κ:KeyKind)(st:SortSt)(lo k i:Nat)(c:BI)(st':SortSt):Prop:=st=st'/\c.1=none/\c.2.1<=c.2.2/\c.2.2<=k/\c.2.2-c.2.1<=k-i/\(∀j,j<c.2.1->κ.kle (KK κ (arrOf st) (lo+j)) (KK κ (arrOf st) (lo+k)))/\(∀j,c.2.2<=j->j<k->κ.kle (KK κ (arrOf st) (lo+k)) (KK κ (arrOf st) (lo+j)))
theorem Nj{a:Array Keyed}{lo k l:Nat}(hs:SK κ a lo (lo+k))(hl:l<=k)(hz:lo+k<a.size)(h1:∀j,j<l->κ.kle (KK κ a (lo+j)) (KK κ a (lo+k)))(h2:∀j,l<=j->j<k->κ.kle (KK κ a (lo+k)) (KK κ a (lo+j))):SK κ (bubble a (lo+k) (lo+k-(lo+l))) lo (lo+(k+1)):=by
 intro i j hi Hy hj
 rw[KK_bubble hz (by omega),KK_bubble hz (by omega)]
 rw[show lo+k-(lo+k-(lo+l))=lo+l by omega]
 obtain⟨i,rfl⟩:∃n,i=lo+n:=⟨i-lo,by omega⟩
 obtain⟨j,rfl⟩:∃n,j=lo+n:=⟨j-lo,by omega⟩
 by_cases e1:lo+i=lo+l
 ·rw[if_pos e1]
  by_cases e2:lo+j=lo+l
  ·rw[if_pos e2];exact CH _
  ·rw[if_neg e2,if_pos (by omega),show lo+j-1=lo+(j-1) by omega]
   exact h2 (j-1) (by omega) (by omega)
 ·rw[if_neg e1]
  by_cases e3:lo+l<lo+i/\lo+i<=lo+k
  ·rw[if_pos e3,if_neg (by omega),if_pos (by omega)]
   exact hs _ _ (by omega) (by omega) (by omega)
  ·rw[if_neg e3]
   by_cases e2:lo+j=lo+l
   ·rw[if_pos e2];exact h1 i (by omega)
   ·rw[if_neg e2]
    by_cases e4:lo+l<lo+j/\lo+j<=lo+k
    ·rw[if_pos e4];exact hs _ _ (by omega) (by omega) (by omega)
    ·rw[if_neg e4];exact hs _ _ (by omega) (by omega) (by omega)
theorem Ru(ho:EV κ kd prog w A s){U9 st:SortSt}{lo n ok:Nat}{Q:Bool->SortSt->Prop}(hb:B kd U9 st lo)(hH:∀p∈(arrOf U9).toList,Fj κ p)(hn:lo+n<=(arrOf U9).size)(h1:1<=ok)(h2:ok<=n)(hs:SK κ (arrOf st) lo (lo+ok))
  (q:∀st',B kd U9 st' lo->SK κ (arrOf st') lo (lo+n)->Q true st'):wpS (model prog w) A E s (binarySort' lo n ok) Q st:=by
 rw[binarySort'_eq]
 refine S7 (Q1:=fun c st'=>c.1=none/\B kd U9 st' lo/\SK κ (arrOf st') lo (lo+n)) (S9 (fun k c st'=>c.1=none/\B kd U9 st' lo/\SK κ (arrOf st') lo (lo+k)) ?_ ?_ ⟨rfl,hb,by rw[Nat.max_eq_left h1];exact hs⟩) ?_
 ·rintro k ⟨o,_⟩ BX hk1 hk2 ⟨e1,b1,s1⟩
  have h0:lo+k<(arrOf U9).size:=by omega
  refine S7 (Q1:=fun c st'=>BX=st'/\c.1=none/\c.2.1<=k/\(∀j,j<c.2.1->κ.kle (KK κ (arrOf BX) (lo+j)) (KK κ (arrOf BX) (lo+k)))/\(∀j,c.2.1<=j->j<k->κ.kle (KK κ (arrOf BX) (lo+k)) (KK κ (arrOf BX) (lo+j)))) (S9 (bi κ BX lo k) ?_ ?_ ⟨rfl,rfl,x5 _,l9 _,l9 _,(fun j hj=>absurd hj (Nat.not_lt_zero _)),fun j h1 h2=>absurd h2 (by have:k<=j:=h1;omega)⟩) ?_
  ·rintro i ⟨o,l,r⟩ st2 _ hi ⟨e2,e3,l1,l2,l3,l4,l5⟩
   dsimp only at e3 l1 l2 l3 l4 l5
   subst e2
   refine l7 (fun hg=>j4 ⟨rfl,rfl,by show l<=k;omega,l4,fun j h1 h2=>l5 j (by have h1':l<=j:=h1;have hg':l≥r:=hg;omega) h2⟩) (fun hg=> ?_)
   have hlr:l<r:=by
    have hg':¬l≥r:=hg
    omega
   refine j8 (CL ho b1 hH h0 (show lo+(l+r)/2<(arrOf U9).size by omega) ?_)
   refine l7 (fun hb=>j4 ⟨rfl,rfl,by show l<=(l+r)/2;omega,by show (l+r)/2<=k;omega,by show (l+r)/2-l<=k-(i+1);omega,l4,fun j h1 h2=> ?_⟩) (fun hb=>j4 ⟨rfl,rfl,by show (l+r)/2+1<=r;omega,l2,by show r-((l+r)/2+1)<=k-(i+1);omega,fun j h1=> ?_,l5⟩)
   ·have h1':(l+r)/2<=j:=h1
    exact BJ (Ec hb) (s1 (lo+(l+r)/2) (lo+j) (by omega) (by omega) (by omega))
   ·have h1':j<(l+r)/2+1:=h1
    exact BJ (s1 _ _ (by omega) (show lo+j<=lo+(l+r)/2 by omega) (by omega)) (Ao (by simpa using hb))
  ·rintro⟨o,l,r⟩ st2 ⟨e2,e3,l1,l2,l3,l4,l5⟩
   dsimp only at e3 l1 l2 l3 l4 l5
   exact⟨e2,e3,by show l<=k;omega,l4,fun j h1 h2=>l5 j (by have h1':l<=j:=h1;omega) h2⟩
  ·rintro⟨o,l,r⟩ st2 ⟨e2,e3,l1,l4,l5⟩
   dsimp only at e3 l1 l4 l5
   subst e2 e3
   refine j8 (Wh (j4 ⟨rfl,⟨b1.ki,b1.fa,b1.pe,(bubble_perm _ _ _).trans b1.pm,fun j hj=> ?_⟩,?_⟩))
   ·show (bubble (arrOf BX) (lo+k) (lo+k-(lo+l)))[j]? =_
    rw[getElem?_bubble (by rw[b1.sz];exact h0) _ (by omega),if_neg (by omega),if_neg (by omega)]
    exact b1.be j hj
   ·exact Nj s1 l1 (by rw[b1.sz];exact h0) l4 l5
 ·rintro⟨o,_⟩ BX ⟨e1,b1,s1⟩
  rw[show max (max ok 1) n=n by omega] at s1
  exact⟨e1,b1,s1⟩
 ·rintro⟨o,_⟩ BX ⟨e1,b1,s1⟩
  dsimp only at e1
  subst e1
  exact j4 (q BX b1 s1)
def NI(κ:KeyKind)(a:Array Keyed)(lo hi:Nat):Prop:=∀i j,lo<=i->i<=j->j<hi->κ.kle (KK κ a j) (KK κ a i)
theorem B.rev{U9 st:SortSt}{lo i j:Nat}(h:B kd U9 st lo)(hi:lo<=i)(hj:j<=(arrOf U9).size):B kd U9 (setArr st (mirror (arrOf st) i j ((j-i)/2))) lo:=
 ⟨h.ki,h.fa,h.pe,(mirror_perm _ _ _ _).trans h.pm,fun k hk=>by
  show (mirror (arrOf st) i j ((j-i)/2))[k]? =_
  rw[getElem?_mirror_all (by rw[h.sz];exact hj),if_neg (by omega)]
  exact h.be k hk⟩
theorem IC{U9 st:SortSt}{lo i j:Nat}{Q:Unit->SortSt->Prop}(h:B kd U9 st lo)(hi:lo<=i)(hj:j<=(arrOf U9).size)(q:∀st',B kd U9 st' lo->(∀k,KK κ (arrOf st') k=if i<=k/\k<j then KK κ (arrOf st) (i+j-1-k) else KK κ (arrOf st) k)->Q () st'):wpS (model prog w) A E s (reverseSlice' i j) Q st:=
 wpS_reverse (q _ (h.rev hi hj) (fun k=>KK_mirror (by rw[h.sz];exact hj) k))
def asc(kd:SortKind)(κ:KeyKind)(U9:SortSt)(lo i:Nat)(c:Option (Option Nat)×Nat)(st:SortSt):Prop:=c=(none,i)/\B kd U9 st lo/\SK κ (arrOf st) lo (lo+i)
theorem SK.step{a:Array Keyed}{lo n:Nat}(h:SK κ a lo (lo+n))(hn:1<=n)(hb:κ.blt (KK κ a (lo+n)) (KK κ a (lo+n-1))=false):SK κ a lo (lo+(n+1)):=fun i j h1 h2 h3=>by
 by_cases e:j=lo+n
 ·subst e
  by_cases e2:i=lo+n
  ·rw[e2];exact CH _
  ·exact BJ (h i (lo+n-1) h1 (by omega) (by omega)) (Ao hb)
 ·exact h i j h1 h2 (by omega)
theorem NI.step{a:Array Keyed}{lo n:Nat}(h:NI κ a lo (lo+n))(hn:1<=n)(hb:κ.kle (KK κ a (lo+n)) (KK κ a (lo+n-1))):NI κ a lo (lo+(n+1)):=fun i j h1 h2 h3=>by
 by_cases e:j=lo+n
 ·subst e
  by_cases e2:i=lo+n
  ·rw[e2];exact CH _
  ·exact BJ hb (h i (lo+n-1) h1 (by omega) (by omega))
 ·exact h i j h1 h2 (by omega)
def Lk(κ:KeyKind)(a:Array Keyed)(lo n neq:Nat):Prop:=neq+1<=n/\∀j,lo+n-(neq+1)<=j->j<lo+n->KK κ a j=KK κ a (lo+n-1)
def dsc(kd:SortKind)(κ:KeyKind)(U9:SortSt)(lo i:Nat)(c:Option (Option Nat)×Nat×Nat)(st:SortSt):Prop:=c.1=none/\c.2.1=i/\B kd U9 st lo/\NI κ (arrOf st) lo (lo+i)/\Lk κ (arrOf st) lo i c.2.2
theorem KN{a a':Array Keyed}{lo n neq:Nat}(h:Lk κ a lo n neq)(hk:∀k,KK κ a' k=if lo+n-(neq+1)<=k/\k<lo+n then KK κ a (lo+n-(neq+1)+(lo+n)-1-k) else KK κ a k):∀k,KK κ a' k=KK κ a k:=fun k=>by
 rw[hk]
 by_cases e:lo+n-(neq+1)<=k/\k<lo+n
 ·have:=h.1
  rw[if_pos e,h.2 _ (by omega) (by omega),h.2 k e.1 e.2]
 ·rw[if_neg e]
theorem Kf(ho:EV κ kd prog w A s){U9 st:SortSt}{lo Br:Nat}{Q:Option Nat->SortSt->Prop}(hb:B kd U9 st lo)(hH:∀p∈(arrOf U9).toList,Fj κ p)(hn:lo+Br<=(arrOf U9).size)(h1:1<=Br)
  (q:∀m st',B kd U9 st' lo->1<=m->m<=Br->SK κ (arrOf st') lo (lo+m)->Q (some m) st'):wpS (model prog w) A E s (countRun' lo Br) Q st:=by
 have desc:∀(n:Nat) (BX:SortSt),1<=n->n<Br->B kd U9 BX lo->NI κ (arrOf BX) lo (lo+(n+1))->dsc kd κ U9 lo (n+1) (none,n+1,0) BX:=fun n BX h1 h2 b1 s1=>⟨rfl,rfl,b1,s1,by show 0+1<=n+1;omega,fun j h3 h4=>by have h3':lo+(n+1)-(0+1)<=j:=h3;rw[show j=lo+(n+1)-1 by omega]⟩
 refine S7 (Q1:=fun c st'=>∃n,c=(none,n)/\B kd U9 st' lo/\1<=n/\n<=Br/\SK κ (arrOf st') lo (lo+n)/\(n=Br\/(n<Br/\κ.blt (KK κ (arrOf st') (lo+n)) (KK κ (arrOf st') (lo+n-1))=true))) (S9 (asc kd κ U9 lo) ?_ ?_ ⟨rfl,hb,fun i j h1 h2 h3=>by rw[show i=j by omega];exact CH _⟩) ?_
 ·rintro i c BX hi1 hi2 ⟨rfl,b1,s1⟩
  refine j8 (CL ho b1 hH (show lo+i<(arrOf U9).size by omega) (show lo+i-1<(arrOf U9).size by omega) ?_)
  exact l7 (fun h=>j4 ⟨i,rfl,b1,hi1,by omega,s1, .inr ⟨hi2,h⟩⟩) (fun h=>j4 ⟨rfl,b1,s1.step hi1 (by simpa using h)⟩)
 ·rintro c BX ⟨rfl,b1,s1⟩
  rw[Nz h1] at s1⊢
  exact⟨Br,rfl,b1,h1,l9 _,s1, .inl rfl⟩
 ·rintro c BX ⟨n,rfl,b1,n1,n2,s1,hd⟩
  refine l7 (fun e=>j4 (q n BX b1 n1 n2 s1)) (fun e=> ?_)
  have T8:n<Br:=by
   rcases hd with e'|⟨h,_⟩
   ·exact absurd (by show (n==Br)=true;rw[e'];exact CG _) e
   ·exact h
  have YL:=(hd.resolve_left (by omega)).2
  refine l7 (fun e2=>j8 (CL ho b1 hH (show lo<(arrOf U9).size by omega) (show lo+n-1<(arrOf U9).size by omega) ?_)) (fun e2=> ?_)
  refine l7 (fun _=>j4 (q n BX b1 n1 n2 s1)) (fun hr=> ?_)
  refine j8 (IC (κ:=κ) b1 (l9 _) (by show lo+n<=(arrOf U9).size;omega) fun st2 b2 kk=> ?_)
  have kk':∀k,KK κ (arrOf st2) k=if lo<=k/\k<lo+n then KK κ (arrOf BX) (lo+(lo+n)-1-k) else KK κ (arrOf BX) k:=kk
  have ni:NI κ (arrOf st2) lo (lo+(n+1)):=by
   have hr':κ.kle (KK κ (arrOf BX) (lo+n-1)) (KK κ (arrOf BX) lo):=Ao (by simpa using hr)
   have all:∀i j,lo<=i->i<lo+n->lo<=j->j<lo+n->κ.kle (KK κ (arrOf BX) i) (KK κ (arrOf BX) j):=fun i j h1 h2 h3 h4=>BJ (s1 i (lo+n-1) h1 (by omega) (by omega)) (BJ hr' (s1 lo j (l9 _) h3 h4))
   intro i j h1 h2 h3
   rw[kk',kk']
   by_cases e3:j=lo+n
   ·subst e3
    rw[if_neg (by omega)]
    by_cases e4:i=lo+n
    ·rw[e4,if_neg (by omega)];exact CH _
    ·rw[if_pos (by omega)]
     exact BJ (Ec YL) (all _ _ (by omega) (by omega) (by omega) (by omega))
   ·rw[if_pos (by omega),if_pos (by omega)]
    exact all _ _ (by omega) (by omega) (by omega) (by omega)
  rotate_left
  have en:n=1:=by
   have e2':¬n>1:=e2
   omega
  obtain⟨st2,Gj,b2,ni⟩:∃st2,st2=BX/\B kd U9 st2 lo/\NI κ (arrOf st2) lo (lo+(n+1)):=⟨BX,rfl,b1,NI.step (fun i j h1 h2 h3=>by rw[show i=j by omega];exact CH _) n1 (Ec YL)⟩
  rw[<-Gj]
  all_goals
   refine j8 (DC (ES ⟨rfl,?_⟩))
   refine S7 (Q1:=fun c st'=>∃m neq,c=(none,m,neq)/\B kd U9 st' lo/\1<=m/\m<=Br/\NI κ (arrOf st') lo (lo+m)/\Lk κ (arrOf st') lo m neq) (S9 (dsc kd κ U9 lo) ?_ ?_ (desc n st2 n1 T8 b2 ni)) ?_
   ·rintro i ⟨o,m,neq⟩ st3 hi1 hi2 ⟨e3,e4,b3,ni3,lk3⟩
    dsimp only at e3 e4 hi1 lk3
    subst e3 e4
    have l1:=lk3.1
    refine j8 (CL ho b3 hH (show lo+m<(arrOf U9).size by omega) (show lo+m-1<(arrOf U9).size by omega) ?_)
    have one:∀a:Array Keyed,Lk κ a lo (m+1) 0:=fun a=>⟨by omega,fun j h1 h2=>by rw[show j=lo+(m+1)-1 by omega]⟩
    refine l7 (fun hs=> ?_) (fun hs=>j8 (CL ho b3 hH (show lo+m-1<(arrOf U9).size by omega) (show lo+m<(arrOf U9).size by omega) ?_))
    ·refine l7 (fun _=>j8 (IC (κ:=κ) b3 (show lo<=lo+m-(neq+1) by omega) (show lo+m<=(arrOf U9).size by omega) fun st4 b4 kk=>j4 ⟨rfl,rfl,b4,?_,one _⟩)) (fun _=>j4 ⟨rfl,rfl,b3,ni3.step (by omega) (Ec hs),one _⟩)
     have sm:=KN lk3 kk
     intro i j h1 h2 h3
     rw[sm,sm]
     exact ni3.step (by omega) (Ec hs) i j h1 h2 h3
    ·refine l7 (fun _=>j4 ⟨m,neq,rfl,b3,by omega,by omega,ni3,lk3⟩) (fun hl=>j4 ⟨rfl,rfl,b3,ni3.step (by omega) (Ao (by simpa using hl)),?_⟩)
     have eq:KK κ (arrOf st3) (lo+m)=KK κ (arrOf st3) (lo+m-1):=κ.total _ _ (by simpa using hs) (by simpa using hl)
     refine⟨by show neq+1+1<=m+1;omega,fun j h1 h2=> ?_⟩
     have h1':lo+(m+1)-(neq+1+1)<=j:=h1
     rw[show lo+(m+1)-1=lo+m by omega]
     by_cases ej:j=lo+m
     ·rw[ej]
     ·rw[lk3.2 j (by omega) (by omega),eq]
   ·rintro⟨o,m,neq⟩ st3 ⟨e3,e4,b3,ni3,lk3⟩
    dsimp only at e3 e4 lk3
    rw[show max (n+1) Br=Br by omega] at e4 ni3 lk3
    subst e3 e4
    exact⟨m,neq,rfl,b3,h1,l9 _,ni3,lk3⟩
   ·rintro c st3 ⟨m,neq,rfl,b3,m1,m2,ni3,lk3⟩
    have l1:=lk3.1
    refine l7 (fun _=>j8 (IC (κ:=κ) b3 (show lo<=lo+m-(neq+1) by omega) (show lo+m<=(arrOf U9).size by omega) fun st4 b4 kk=> ?_)) (fun _=> ?_)
    have ni4:NI κ (arrOf st4) lo (lo+m):=by
     have sm:=KN lk3 kk
     intro i j h1 h2 h3
     rw[sm,sm]
     exact ni3 i j h1 h2 h3
    rotate_left
    obtain⟨st4,hst4,b4,ni4⟩:∃st4,st4=st3/\B kd U9 st4 lo/\NI κ (arrOf st4) lo (lo+m):=⟨st3,rfl,b3,ni3⟩
    rw[<-hst4]
    all_goals
     refine j8 (IC (κ:=κ) b4 (l9 _) (show lo+m<=(arrOf U9).size by omega) fun st5 b5 kk5=> ?_)
     have kk6:∀k,KK κ (arrOf st5) k=if lo<=k/\k<lo+m then KK κ (arrOf st4) (lo+(lo+m)-1-k) else KK κ (arrOf st4) k:=kk5
     have s5:SK κ (arrOf st5) lo (lo+m):=fun i j h1 h2 h3=>by
      rw[kk6,kk6,if_pos (by omega),if_pos (by omega)]
      exact ni4 _ _ (by omega) (by omega) (by omega)
     refine S7 (Q1:=fun c st'=>∃n',c=(none,n')/\B kd U9 st' lo/\1<=n'/\n'<=Br/\SK κ (arrOf st') lo (lo+n')) (S9 (asc kd κ U9 lo) ?_ ?_ ⟨rfl,b5,s5⟩) ?_
     ·rintro i c st6 hi1 hi2 ⟨rfl,b6,s6⟩
      have hi1':m<=i:=hi1
      refine j8 (CL ho b6 hH (show lo+i<(arrOf U9).size by omega) (show lo+i-1<(arrOf U9).size by omega) ?_)
      exact l7 (fun h=>j4 ⟨i,rfl,b6,by omega,by omega,s6⟩) (fun h=>j4 ⟨rfl,b6,s6.step (by omega) (by simpa using h)⟩)
     ·rintro c st6 ⟨rfl,b6,s6⟩
      have em:max m Br=Br:=by omega
      refine⟨Br,?_,b6,h1,l9 _,?_⟩
      ·show (none,max m Br)=_
       rw[em]
      ·have:SK κ (arrOf st6) lo (lo+max m Br):=s6
       rw[em] at this
       exact this
     ·rintro c st6 ⟨n',rfl,b6,h3,h4,s6⟩
      exact j4 (q n' st6 b6 h3 h4 s6)
theorem Zc{a a':Array Keyed}{k:Nat}(h:a'[k]? =a[k]?):KK κ a' k=KK κ a k:=by unfold KK;rw[h]
theorem Su{a:Array Keyed}{lo hi:Nat}(h:SK κ a lo hi):(Bn a.toList lo hi).Pairwise (le κ):=by
 rw[GY]
 intro i j h1 h2 h3
 have e1:(Bn a.toList lo hi)[i]? =some (Bn a.toList lo hi)[i]:=u9 _
 have e2:(Bn a.toList lo hi)[j]? =some (Bn a.toList lo hi)[j]:=u9 _
 generalize (Bn a.toList lo hi)[i]=x at*
 generalize (Bn a.toList lo hi)[j]=y at*
 unfold Bn at e1 e2
 rw[CK] at e1 e2
 split at e1
 ·split at e2
  ·rw[Bk,tl] at e1 e2
   have:=h (lo+i) (lo+j) (by omega) (by omega) (by omega)
   rw[AH e1,AH e2] at this
   exact this
  ·cases e2
 ·cases e1
def Runs(κ:KeyKind)(a:Array Keyed):Nat->List (Nat×Nat×Nat)->Nat->Prop
 |t,[],e=>t=e
 |t,x::r,e=>x.1=t/\1<=x.2.1/\SK κ a t (t+x.2.1)/\Runs κ a (t+x.2.1) r e
theorem Runs.le{a:Array Keyed}:∀{t e:Nat} {p:List (Nat×Nat×Nat)},Runs κ a t p e->t+p.length<=e
 |t,e,[],h=>by have h':t=e:=h;simp [h']
 |t,e,x::r,h=>by
  have:=Runs.le h.2.2.2
  have:=h.2.1
  rw[List.length_cons]
  omega
theorem Runs.app{a:Array Keyed}:∀{t e:Nat} {p q:List (Nat×Nat×Nat)},Runs κ a t (p++q) e↔∃m,Runs κ a t p m/\Runs κ a m q e
 |t,e,[],q=>by
  constructor
  ·intro h;exact⟨t,rfl,h⟩
  ·rintro⟨m,h1,h2⟩
   have h1':t=m:=h1
   rw[h1'];exact h2
 |t,e,x::p,q=>by
  constructor
  ·rintro⟨h1,h2,h3,h4⟩
   obtain⟨m,h5,h6⟩:=Runs.app.mp h4
   exact⟨m,⟨h1,h2,h3,h5⟩,h6⟩
  ·rintro⟨m,⟨h1,h2,h3,h4⟩,h5⟩
   exact⟨h1,h2,h3,Runs.app.mpr ⟨m,h4,h5⟩⟩
theorem SK.congr{a a':Array Keyed}{lo hi:Nat}(h:SK κ a lo hi)(e:∀k,lo<=k->k<hi->a'[k]? =a[k]?):SK κ a' lo hi:=fun i j h1 h2 h3=>by
 rw[Zc (e i h1 (by omega)),Zc (e j (by omega) h3)]
 exact h i j h1 h2 h3
theorem Runs.congr{a a':Array Keyed}:∀{t e:Nat} {p:List (Nat×Nat×Nat)},Runs κ a t p e->(∀k,t<=k->k<e->a'[k]? =a[k]?)->Runs κ a' t p e
 |t,e,[],h,_=>h
 |t,e,x::r,⟨h1,h2,h3,h4⟩,hk=>by
  have:=Runs.le h4
  exact⟨h1,h2,h3.congr fun k k1 k2=>hk k k1 (by omega),Runs.congr h4 fun k k1 k2=>hk k (by omega) k2⟩
structure S0(kd:SortKind)(κ:KeyKind)(a0:Array Keyed)(st:SortSt):Prop where
 ki:kindOf st=kd
 fa:failedOf st=none
 pm:(arrOf st).Perm a0
theorem S0.sz{a0:Array Keyed}{st:SortSt}(h:S0 kd κ a0 st):(arrOf st).size=a0.size:=h.pm.size_eq
theorem S0.has{a0:Array Keyed}{st:SortSt}(h:S0 kd κ a0 st)(hH:∀p∈a0.toList,Fj κ p):∀p∈(arrOf st).toList,Fj κ p:=fun p hp=>hH p ((Nu.mp h.pm).mem_iff.mp hp)
theorem DJ(ho:EV κ kd prog w A s){a0:Array Keyed}{st:SortSt}{i e:Nat}{Q:Bool->SortSt->Prop}(h:S0 kd κ a0 st)(hH:∀p∈a0.toList,Fj κ p)(hr:Runs κ (arrOf st) 0 (pendingOf st).toList e)(he:e<=a0.size)(hi:i+1<(pendingOf st).size)
  (q:∀st',S0 kd κ a0 st'->Runs κ (arrOf st') 0 (pendingOf st').toList e->(pendingOf st').size+1=(pendingOf st).size->(∀k,e<=k->(arrOf st')[k]? =(arrOf st)[k]?)->Q true st'):wpS (model prog w) A E s (mergeAt' i) Q st:=by
 obtain⟨p,⟨sa,na,pw⟩,⟨sb,nb,pw2⟩,r,hp,hl⟩:∃p x y r,(pendingOf st).toList=p++x::y::r/\p.length=i:=by
  have h1:i<(pendingOf st).toList.length:=by rw[CD];omega
  have h2:i+1<(pendingOf st).toList.length:=by rw[CD];omega
  refine⟨(pendingOf st).toList.take i,(pendingOf st).toList[i],(pendingOf st).toList[i+1],(pendingOf st).toList.drop (i+2),?_,by rw[I9];omega⟩
  rw[<-AE h2,<-AE h1,Bh]
 have hr0:=hr
 rw[hp,Runs.app] at hr
 obtain⟨m,r1,⟨e1,n1,k1,e2,n2,k2,r3⟩⟩:=hr
 dsimp only at e1 n1 k1 e2 n2 k2 r3
 subst e1
 have le3:=Runs.le r3
 have g1:(pendingOf st)[i]? =some (sa,na,pw):=by rw[<-Iq,hp,Em (by omega),hl,JO];rfl
 have g2:(pendingOf st)[i+1]? =some (sb,nb,pw2):=by rw[<-Iq,hp,Em (by omega),hl,show i+1-i=1 by omega];rfl
 subst e2
 have sz:=h.sz
 refine Md ho h.ki h.fa (h.has hH) g1 g2 rfl n1 n2 (by omega) (Su k1) (Su k2) fun st' R f1 f2 f3 f4 f5 f6=> ?_
 have lR:R.length=na+nb:=by
  rw[f5.length_eq]
  unfold Bn
  rw[I9,GG,Y8]
  omega
 have lT:((arrOf st).toList.take sa).length=sa:=by rw[I9,Y8];omega
 have out1:∀k,k<sa->(arrOf st')[k]? =(arrOf st)[k]? :=fun k hk=>by
  rw[<-tl,f4,o5,GI (by omega),CK,if_pos hk,tl]
 have out2:∀k,sa+na+nb<=k->(arrOf st')[k]? =(arrOf st)[k]? :=fun k hk=>by
  rw[<-tl,f4,Em (by rw[l0,lT,lR];omega),l0,lT,lR,Bk,tl,show sa+na+nb+(k-(sa+(na+nb)))=k by omega]
 have mid:SK κ (arrOf st') sa (sa+(na+nb)):=fun i j h1 h2 h3=>by
  have get:∀k,sa<=k->k<sa+(na+nb)->∃x,R[k-sa]? =some x/\(arrOf st')[k]? =some x:=fun k h1 h2=>by
   refine⟨R[k-sa]'(by omega),u9 _,?_⟩
   rw[<-tl,f4,GI (by rw[l0,lT,lR];omega),Em (by omega),lT]
   exact u9 _
  obtain⟨x,x1,x2⟩:=get i h1 (by omega)
  obtain⟨y,y1,y2⟩:=get j (by omega) h3
  rw[AH x2,AH y2]
  exact P5 f6 (by omega) x1 y1
 have pP:(pendingOf st').toList=p++(sa,na+nb,pw)::r:=by
  rw[f3]
  have:((pendingOf st).setIfInBounds i (sa,na+nb,pw)).toList=p++(sa,na+nb,pw)::(sa+na,nb,pw2)::r:=by
   rw[VC,hp,List.set_append_right _ _ (by omega),hl,JO]
   rfl
  rw[Array.toList_eraseIdxIfInBounds,this,List.eraseIdx_append_of_length_le (by omega),hl,show i+1-i=1 by omega]
  rfl
 refine q st' ⟨f1,f2,?_⟩ ?_ ?_ fun k hk=>out2 k (by omega)
 ·refine(Nu.mpr ?_).trans h.pm
  rw[f4]
  have:=(f5.append_left ((arrOf st).toList.take sa)).append_right ((arrOf st).toList.drop (sa+na+nb))
  rw[<-Cc _ (by omega)] at this
  exact this
 ·rw[pP,Runs.app]
  exact⟨sa,r1.congr fun k _ k2=>out1 k k2,rfl,by show 1<=na+nb;omega,mid,by
   rw[show sa+(na+nb)=sa+na+nb by omega]
   exact r3.congr fun k k1 _=>out2 k k1⟩
 ·have h1:=congrArg List.length hp
  have h2:=congrArg List.length pP
  rw[CD] at h1 h2
  simp at h1 h2
  omega
def iv1(kd:SortKind)(κ:KeyKind)(a0:Array Keyed)(i:Nat)(c:Option Unit×Nat)(st:SortSt):Prop:=c.1=none/\S0 kd κ a0 st/\Runs κ (arrOf st) 0 (pendingOf st).toList c.2/\c.2<=a0.size/\i<=c.2
def iv2(kd:SortKind)(κ:KeyKind)(a0:Array Keyed)(lo n:Nat)(_:Nat)(c:Option Unit×Unit)(st:SortSt):Prop:=c.1=none/\S0 kd κ a0 st/\Runs κ (arrOf st) 0 (pendingOf st).toList lo/\SK κ (arrOf st) lo (lo+n)
def iv3(kd:SortKind)(κ:KeyKind)(a0:Array Keyed)(j:Nat)(c:Option Unit×Unit)(st:SortSt):Prop:=c.1=none/\S0 kd κ a0 st/\Runs κ (arrOf st) 0 (pendingOf st).toList a0.size/\(pendingOf st).size+j<=a0.size
theorem Qb{a:Array Keyed}{lo:Nat}{P:Array (Nat×Nat×Nat)}(f:Nat×Nat×Nat->Nat×Nat×Nat)(hf:∀x,(f x).1 =x.1/\(f x).2.1 =x.2.1)(h:Runs κ a 0 P.toList lo):Runs κ a 0 (P.modify (P.size-1) f).toList lo:=by
 have gen:∀(l:List (Nat×Nat×Nat)) (t i:Nat),Runs κ a t l lo->Runs κ a t (l.modify i f) lo:=by
  intro l
  induction l with
  |nil=>intro t i h;rw[List.modify_nil];exact h
  |cons x l ih=>
   intro t i h
   cases i with
   |zero=>
    show Runs κ a t (f x::l) lo
    obtain⟨h1,h2,h3,h4⟩:=h
    have e:=hf x
    refine⟨e.1.trans h1,?_,?_,?_⟩
    ·rw[e.2];exact h2
    ·rw[e.2];exact h3
    ·rw[e.2];exact h4
   |succ i=>
    show Runs κ a t (x::l.modify i f) lo
    exact⟨h.1,h.2.1,h.2.2.1,ih _ i h.2.2.2⟩
 rw[Array.toList_modify]
 exact gen _ _ _ h
theorem Qa{a:Array Keyed}{lo n:Nat}{P:Array (Nat×Nat×Nat)}(h:Runs κ a 0 P.toList lo)(hn:1<=n)(hs:SK κ a lo (lo+n)):Runs κ a 0 (P.push (lo,n,0)).toList (lo+n):=by
 rw[Nw,Runs.app]
 exact⟨lo,h,rfl,hn,hs,rfl⟩
theorem Kd(ho:EV κ kd prog w A s){st:SortSt}{Q:Unit->SortSt->Prop}(hk:kindOf st=kd)(hf:failedOf st=none)(hp:pendingOf st= #[])(hH:∀p∈(arrOf st).toList,Fj κ p)(h2:1<=(arrOf st).size)
  (q:∀st',(arrOf st').Perm (arrOf st)->failedOf st'=none->SK κ (arrOf st') 0 (arrOf st).size->Q () st'):wpS (model prog w) A E s sortRuns' Q st:=by
 rw[sortRuns'_eq]
 refine j8 (Bi ?_)
 have r0:Runs κ (arrOf st) 0 (pendingOf st).toList 0:=by rw[hp];rfl
 refine S7 (Q1:=fun c st'=>c.1=none/\S0 kd κ (arrOf st) st'/\Runs κ (arrOf st') 0 (pendingOf st').toList (arrOf st).size) (S9 (iv1 kd κ (arrOf st)) ?_ ?_ ⟨rfl,⟨hk,hf,Nt _⟩,r0,x5 _,l9 _⟩) ?_
 ·rintro i ⟨o,lo⟩ BX _ hi ⟨e1,b1,r1,l1,l2⟩
  dsimp only at e1 r1 l1 l2
  refine l7 (fun hg=>j4 ⟨rfl,b1,by have:(arrOf st).size<=lo:=hg;rw[show (arrOf st).size=lo by omega];exact r1⟩) (fun hg=> ?_)
  have T8:lo<(arrOf st).size:=by
   have:¬lo≥(arrOf st).size:=hg
   omega
  have bb:B kd BX BX lo:=⟨b1.ki,b1.fa,rfl,Nt _,fun _ _=>rfl⟩
  have hH1:=b1.has hH
  have sz1:=b1.sz
  refine j8 (Kf ho bb hH1 (show lo+((arrOf st).size-lo)<=(arrOf BX).size by omega) (show 1<=(arrOf st).size-lo by omega) fun n st2 b2 n1 n2 s2=> ?_)
  refine l7 (fun hm=>j8 (DC (ES ⟨rfl,?_⟩))) (fun hm=> ?_)
  refine j8 (Ru ho b2 hH1 (show lo+min ((arrOf st).size-lo) _<=(arrOf BX).size by omega) n1 (show n<=min ((arrOf st).size-lo) (minRun' (arrOf st).size (arrOf st).size 0) by have n2':n<=(arrOf st).size-lo:=n2;omega) s2 fun st4 b4 s4=> ?_)
  refine l7 (fun c=>absurd c (by simp)) (fun _=> ?_)
  dsimp only
  obtain⟨m,OV,m1,m2,s4⟩:∃m,m=min ((arrOf st).size-lo) (minRun' (arrOf st).size (arrOf st).size 0)/\1<=m/\lo+m<=(arrOf st).size/\SK κ (arrOf st4) lo (lo+m):=⟨_,rfl,by have n2':n<=(arrOf st).size-lo:=n2;omega,by omega,s4⟩
  rw[<-OV]
  rotate_left
  dsimp only
  obtain⟨st4,m,Gj,OV,b4,m1,m2,s4⟩:∃st4 m,st4=st2/\m=n/\B kd BX st4 lo/\1<=m/\lo+m<=(arrOf st).size/\SK κ (arrOf st4) lo (lo+m):=⟨st2,n,rfl,rfl,b2,n1,by have n2':n<=(arrOf st).size-lo:=n2;omega,s2⟩
  rw[<-Gj,<-OV]
  all_goals
   have S4:S0 kd κ (arrOf st) st4:=⟨b4.ki,b4.fa,b4.pm.trans b1.pm⟩
   have R4:Runs κ (arrOf st4) 0 (pendingOf st4).toList lo:=by rw[b4.pe];exact r1.congr fun k _ k2=>b4.be k k2
   have fin:∀st5,S0 kd κ (arrOf st) st5->Runs κ (arrOf st5) 0 (pendingOf st5).toList lo->SK κ (arrOf st5) lo (lo+m)->iv1 kd κ (arrOf st) (i+1) (none,lo+m) (setPending st5 ((pendingOf st5).push (lo,m,0))):=fun st5 S5 R5 s5=>⟨rfl,⟨S5.ki,S5.fa,S5.pm⟩,Qa R5 m1 s5,m2,by show i+1<=lo+m;omega⟩
   refine j8 (Bi ?_)
   cases hbk:(pendingOf st4).back? with
   |none=>exact j8 (DA (j4 (fin st4 S4 R4 s4)))
   |some x=>
    obtain⟨x1,x2,x3⟩:=x
    refine S7 (Q1:=fun c st'=>c.1=none/\S0 kd κ (arrOf st) st'/\Runs κ (arrOf st') 0 (pendingOf st').toList lo/\SK κ (arrOf st') lo (lo+m)) (S9 (iv2 kd κ (arrOf st) lo m) ?_ ?_ ⟨rfl,S4,R4,s4⟩) ?_
    ·rintro j ⟨o,u⟩ st5 _ hj ⟨e5,S5,R5,s5⟩
     refine j8 (Bi ?_)
     by_cases hsz:(pendingOf st5).size>1
     ·obtain⟨x,hx⟩:∃x,(pendingOf st5)[(pendingOf st5).size-2]? =some x:=⟨_,NA (by omega)⟩
      rw[if_pos hsz,hx]
      obtain⟨y1,y2,y3⟩:=x
      exact l7 (fun _=>j4 ⟨rfl,S5,R5,s5⟩) (fun _=>j8 (DJ ho S5 hH R5 (by omega) (by omega) fun st6 S6 R6 _ k6=>l7 (fun c=>absurd c (by simp)) fun _=>j4 ⟨rfl,S6,R6,s5.congr fun k k1 _=>k6 k k1⟩))
     ·rw[if_neg hsz]
      exact j4 ⟨rfl,S5,R5,s5⟩
    ·rintro⟨o,u⟩ st5 h
     exact h
    ·rintro⟨o,u⟩ st5 ⟨e5,S5,R5,s5⟩
     dsimp only at e5
     subst e5
     exact j8 (DA (j8 (DA (j4 (fin (setPending st5 _) ⟨S5.ki,S5.fa,S5.pm⟩ (Qb _ (fun x=>⟨rfl,rfl⟩) R5) s5)))))
 ·rintro⟨o,lo⟩ BX ⟨e1,b1,r1,l1,l2⟩
  dsimp only at e1 r1 l1 l2
  have:lo=(arrOf st).size:=by omega
  rw[this] at r1
  exact⟨e1,b1,r1⟩
 ·rintro⟨o,lo⟩ BX ⟨e1,b1,r1⟩
  dsimp only at e1
  subst e1
  have le1:=Runs.le r1
  rw[CD] at le1
  refine S7 (Q1:=fun c st'=>c.1=none/\S0 kd κ (arrOf st) st'/\Runs κ (arrOf st') 0 (pendingOf st').toList (arrOf st).size/\(pendingOf st').size<=1) (S9 (iv3 kd κ (arrOf st)) ?_ ?_ ⟨rfl,b1,r1,by omega⟩) ?_
  ·rintro j ⟨o,u⟩ st2 _ hj ⟨e2,S2,R2,l2⟩
   refine j8 (Bi ?_)
   refine l7 (fun Bc=>j4 ⟨rfl,S2,R2,Bc⟩) (fun Bc=> ?_)
   have hle':¬(pendingOf st2).size<=1:=Bc
   refine j8 (DJ ho S2 hH R2 (l9 _) (by(repeat' split)<;>omega) fun st3 S3 R3 l3 _=>l7 (fun c=>absurd c (by simp)) fun _=>j4 ⟨rfl,S3,R3,by omega⟩)
  ·rintro⟨o,u⟩ st2 ⟨e2,S2,R2,l2⟩
   exact⟨e2,S2,R2,by omega⟩
  ·rintro⟨o,u⟩ st2 ⟨e2,S2,R2,l2⟩
   dsimp only at e2
   subst e2
   refine j4 (q st2 S2.pm S2.fa ?_)
   rw[<-CD] at l2
   match hl:(pendingOf st2).toList,R2,l2 with
   |[],h,_=>
    have h':0=(arrOf st).size:=h
    omega
   |[x],h,_=>
    obtain⟨h1,h3,h4,h5⟩:=h
    have h5':0+x.2.1=(arrOf st).size:=h5
    rw[h5'] at h4
    exact h4
   |_::_::_,_,h=>simp at h
def LP(κ:KeyKind)(kd:SortKind)(prog:Program)(w:World)(vs:List Value)(s:Shared):Prop:=∀A,EV κ kd prog w A s/\(2<=vs.length->∀(E':Value->Shared->Prop) {Q:SortKind->Shared->Prop},Q kd s->wpAny (model prog w) A (keyKind' vs.toArray) Q E' s)
theorem Hu{a:Addr}{vs:List Value}{n:Nat}{P:Fin->Shared->Prop}(ho:s.heap.get? a=some (seqObj "list" vs.toArray n))(h0:KeysOf κ (pairsOf vs))
  (hkk:∀h':Heap,(∀b o,b≠a->s.heap.get? b=some o->h'.get? b=some o)->LP κ kd prog w vs {s with heap:=h'})(hn:vs.length<=1000000)
  (h:∀st':SortSt,(arrOf st').Perm (pairsOf vs)->SortedToK κ (arrOf st') (pairsOf vs).size->P (Fin.done (Flow.ret Value.none)) {heap:=sortedHeap s.heap a vs (Array.map (fun x=>x.snd) (arrOf st')),gens:=s.gens,drawn:=s.drawn,toks:=s.toks,os:=s.os}):
  wpAny (model prog w) A (PySem.Builtin.«list.sort» {pos:=[Value.ref a]}) P E s:=by
 have ha:=O9 ho
 have line:vs.toArray.size<=sizeLine:=by rw[D8,T6];omega
 rw[list_sort_plain]
 refine x6 (listItems_at ho rfl (x6 (listUpdate_at ho rfl ?_ line (x5 _))))
 obtain⟨e1,ho1⟩:∃e,(s.heap.update a (Obj.mapSeq fun x=> #[])).get? a=some (seqObj "list" #[] e):=⟨_,get?_update_seq ho fun x=> #[]⟩
 refine x6 (seqEpoch_at ho1 rfl (x6 (wpAny_newTuple (x6 (wpAny_newList (Ix ?_) (x5 _))) (by rw[<-D8];exact line))))
 have nt:∀b,b<s.heap.objs.size->(((s.heap.update a (Obj.mapSeq fun x=> #[])).push (seqObj "tuple" vs.toArray 0)).push (seqObj "list" #[] 0)).get? b=(s.heap.update a (Obj.mapSeq fun x=> #[])).get? b:=fun b hb=>by
  rw[Nr _ _ _ (by rw[size_push',Heap.size_update];exact M7 (JU hb)),Nr _ _ _ (by rw[Heap.size_update];exact M7 hb)]
 have ho6:=(nt a ha).trans ho1
 have sz:=pairsOf_size vs
 have fin:∀st':SortSt,(arrOf st').Perm (pairsOf vs)->failedOf st'=none->SortedToK κ (arrOf st') (pairsOf vs).size->wpAny (model prog w) A (do
   let sorted:=(arrOf st').map (·.2)
   let touched:=(<-seqEpoch a) != e1
   Builtin.List.listUpdate (.ref a) fun _=>sorted
   if let some e:=failedOf st' then rule "list.sort.comparison-raised";throw e
   if touched then rule "list.sort.modified";raiseError "ValueError" "list modified during sort"
   ret .none) P E {s with heap:=(((s.heap.update a (Obj.mapSeq fun x=> #[])).push (seqObj "tuple" vs.toArray 0)).push (seqObj "list" #[] 0))}:=fun st' p1 p2 p3=>by
  refine x6 (seqEpoch_at ho6 rfl (x6 (listUpdate_at ho6 rfl ?_ (x5 _) ?_)))
  ·rw[p2]
   have et:(e1 != e1)=false:=by simp
   rw[et]
   exact J3 (h st' p1 p3)
  ·rw[Array.size_map,p1.size_eq,sz]
   rw[D8] at line
   omega
 by_cases h2:vs.toArray.size<2
 ·rw[if_pos h2,if_pos h2]
  refine x6 (J3 ?_)
  dsimp only
  rw[StateT.run_pure]
  refine x6 (J3 (fin (SortSt.mk' general' (vs.toArray.zip vs.toArray) #[] 7 none) (Nt _) rfl fun i j Hy hj=> ?_))
  rw[D8] at h2
  rw[sz] at hj
  have:i=j:=by omega
  subst this
  exact CH _
 ·rw[if_neg h2,if_neg h2]
  rw[D8] at h2
  obtain⟨hO,hK⟩:=hkk _ (fun b o nb hb=>(nt b (O9 hb)).trans (by rw[Heap.get?_update_ne _ _ _ _ nb];exact hb)) A
  refine x6 (hK (by omega) _ ?_)
  refine x6 (U2 (Kd (κ:=κ) hO (st:=SortSt.mk' kd (pairsOf vs) #[] 7 none) (Q:=fun _ st'=>(arrOf st').Perm (pairsOf vs)/\failedOf st'=none/\SK κ (arrOf st') 0 (pairsOf vs).size) rfl rfl rfl h0 (by show 1<=(pairsOf vs).size;omega) fun st' a1 a2 a3=>⟨a1,a2,a3⟩) ?_ fun _ _ e=>e)
  rintro⟨u,st'⟩ s1 ⟨rfl,p1,p2,p3⟩
  exact fin st' p1 p2 fun i j h1 h2=>p3 i j (x5 _) h1 h2
theorem Hm{vs:List Value}{ss:List Str}(hS:StrsAre vs ss):LP strKind oneType' prog w vs s:=fun A=>⟨fun E x y a b Q ha hb q=>by
  rw[keyLt'_oneType]
  exact strKind_oneLt prog w A E s x y a b ha hb q,fun h2 E' Q q=>by
  obtain⟨v₁,v₂,Av,rfl⟩:∃v₁ v₂ Av,vs=v₁::v₂::Av:=by
   match vs,h2 with
   |v₁::v₂::Av,_=>exact⟨v₁,v₂,Av,rfl⟩
  rw[keyKind_strs hS]
  exact J3 q⟩
end
end TS
namespace L2
open PySem PySem.Spec PyProof.Rows
section
variable {prog:Program} {w:World} {A:Around} {E:Value->Shared->Prop} {s:Shared} {T:String} {r d:Addr} {n:Nat} {P:Nat->Value->Prop} {OK:Heap->Prop}
theorem KG{Q:Value->Shared->Prop}{zs:List Str}(K:PySem.W.KdlSrc prog w T r d zs.length P OK)(hh:A.handled=none)(hok:OK s.heap)(hb:zs.length<=1000000)(hP:∀i v,P i v->∃z t,zs[i]? =some z/\v= .str z t)
  (q:∀(h':Heap) (tk:Nat) (a:Addr) (out:List Value) (ys:List Str) (e:Nat),s.heap.objs.size<=a->(∀b o,s.heap.get? b=some o->h'.get? b=some o)->h'.get? a=some {cls:= .type "list",data:= .seq out.toArray e}->y7 (ys.map V.str) out->ys.Perm zs->sortedS ys=true->
   Q (.ref a) {s with heap:=h',toks:=tk}):wpAny (model prog w) A (call (.builtin "sorted") [.ref r]) Q E s:=by
 refine VA kind_sorted plain_sorted entry_sorted (args_sorted1 _) ?_
 unfold Builtin.«sorted»
 refine x6 (m:=checkCount "sorted" 1 1 _) (J3 ?_)
 refine x6 (LB K hh hok (by rw[T6];omega) fun h1 tk AW T8 old hi=> ?_)
 obtain⟨hn,hi⟩:=hi
 have hS:StrsAre AW.toList zs:=by
  have all:∀v∈AW.toList,∃z t,v= .str z t:=fun v hv=>by
   obtain⟨j,hj,rfl⟩:=List.mem_iff_getElem.mp hv
   obtain⟨z,t,_,e⟩:=hP j AW.toList[j] (hi j AW.toList[j] (by rw[<-Iq];exact u9 hj))
   exact⟨z,t,e⟩
  have e:AW.toList.map strOf=zs:=by
   apply NF
   intro j
   rw[u8]
   cases hj:AW.toList[j]? with
   |none=>
    have:=VI.mp hj
    rw[CD,hn] at this
    exact(CJ this).symm
   |some v=>
    obtain⟨z,t,e1,e2⟩:=hP j v (hi j v (by rw[<-Iq];exact hj))
    rw[e1,e2];rfl
  rw[<-e]
  exact strsAre_map _ all
 have E2:AW.toList.length=zs.length:=by rw[CD,hn]
 have szl:=T6
 refine x6 (wpAny_newList ?_ (by omega))
 have o1:(h1.push (seqObj "list" AW.toList.toArray 0)).get? h1.objs.size=some (seqObj "list" AW.toList.toArray 0):=W8 _ rfl
 refine x6 (Ix (wpAny_call_entry slot_list_sort ⟨_,o1,rfl⟩ entry_list_sort (TS.Hu o1 hS.keysOf (fun _ _=>TS.Hm hS) (by omega) fun st a1 a2=>⟨_,rfl,?_⟩) (args_list_sort _)))
 obtain⟨ys,b1,b2,b3⟩:=sorted_out_str hS a1 a2
 obtain⟨e,he2⟩:=sortedHeap_at (vs:=AW.toList) (out:=(arrOf st).map (·.2)) o1
 have hz:s.heap.objs.size<=h1.objs.size:=Dh T8
 refine J3 ⟨_,rfl,q _ tk h1.objs.size ((arrOf st).map (·.2)).toList ys e hz (fun b o hb=> ?_) he2 (FI b1) b2 b3⟩
 have lb:b<h1.objs.size:=O9 (old b o hb)
 rw[sortedHeap_old (M7 lb) (by rw[size_push'];exact JU lb),Nr _ _ _ (M7 lb)]
 exact old b o hb
end
section
variable {X:Cx}
theorem RT{kvs:List (D7×V)}{vs:List (D7×Value)}{zs:List Str}(rel:KV kvs vs)(hk:kvs.map (·.1)=zs.map Sum.inr){i:Nat}{v:Value}(h:∃k x,vs[i]? =some (k,x)/\(A3 X.prog X.w).is k v=true):∃z t,zs[i]? =some z/\v= .str z t:=by
 obtain⟨k,x,e1,e2⟩:=h
 have e3:(vs.map (·.1))[i]? =some k:=by rw[u8,e1];rfl
 rw[ON rel,hk,u8] at e3
 cases hz:zs[i]? with
 |none=>rw[hz] at e3;cases e3
 |some z1=>
  rw[hz] at e3
  have:Sum.inr z1=k:=Ab e3
  subst this
  obtain⟨t,rfl⟩:=MU e2
  exact⟨z1,t,rfl,rfl⟩
theorem K0(hc:X.calm=true:=by rfl):Ae X (.builtin "sorted") (fun xs H Q=>∃(p:Addr) (kvs:List (D7×V)) (zs:List Str),xs=[.ref p]/\H p=some (.dK kvs)/\kvs.map (·.1)=zs.map Sum.inr/\zs.length<=1000000/\
  ∀(r:Addr) (ys:List Str),H r=none->ys.Perm zs->sortedS ys=true->Q (.ref r) (upd H r (.lst (ys.map V.str)))):=by
 intro c7 s σ H xs us Q I r h
 obtain⟨p,kvs,zs,rfl,hp,hk,hl,q⟩:=h
 obtain⟨u,rfl,ru⟩:=vals1 r
 cases ru
 obtain⟨z,hd,vs,rel,dd⟩:=Fc I.hok hp
 obtain⟨ep,da⟩:=dd.dictAt
 have hn:vs.length=zs.length:=by
  have:=congrArg List.length ((ON rel).trans hk)
  simpa using this
 have S:=PySem.W.kdl_dict (prog:=X.prog) (w:=X.w) (knd:=A3 X.prog X.w) (kvs:=vs) (ep:=ep) hd
 rw[hn] at S
 refine KG S (I.ok.hd hc) da hl (fun i v h=>RT rel hk h) fun h' tk a out ys e ha old g1 rv hy hm=> ?_
 refine⟨.ref a,_,I.laid (o:= .lst (ys.map V.str)) (t':=tk) old ha ?_,rfl,q a ys (I.hok.fresh ha) hy hm⟩
 refine⟨?_,out,e,rv,g1⟩
 rw[i5,hy.length_eq,T6]
 omega
end
section
variable {prog:Program} {w:World} {A:Around} {E:Value->Shared->Prop} {s:Shared} {T:String} {r d:Addr} {n:Nat} {P:Nat->Value->Prop} {OK:Heap->Prop}
end
section
variable {X:Cx}
end
section
variable {prog:Program} {w:World} {A:Around} {E:Value->Shared->Prop} {s:Shared}
end
section
variable {X:Cx}
end
section
variable {X:Cx}
end
structure FnOkT(P:Program)(w:World)(K:n9)(mg:Str->Option Value)(base:Heap)(k:Nat)(f:Addr)(fd:FuncData)(ps:List Str)(sp:Sp):Prop where
 len:∀vs H Q E,sp vs H Q E->vs.length=ps.length
 run:∀(A:Around) (outer:List Env) (s:Shared) (H:Hp) (args:Args) (us:List Value) (vs:List V) (Q:VK) (E:XK),Room k A->Env0w P w K mg base A outer s H->BindsTo s fd args (ps.zip us)->y7 vs us->sp vs H Q E->
  codeAny (model P w) A (.call (.ref f) args) (fun r s'=>CR x8 outer P w H s Q E r s'/\0<s'.toks) s
section
variable {P:Program} {w:World} {K:n9} {mg:Str->Option Value} {base:Heap}
end
section
variable {X:Cx}
end
section
variable {X:Cx}
def VVo(r d:Addr):HO:= .ext fun h=>h.IsValuesView r d
theorem Wi{P:Program}{w:World}{H:Hp}{h:Heap}{r d:Addr}(x:h.IsValuesView r d):J4 P w H h r (VVo r d):=by
 obtain⟨o,ho,hc,hd⟩:=id x
 exact⟨x,⟨o,ho⟩,fun h1 h2 ⟨o1,g1,r1⟩ k=>⟨o1,k o1 g1,r1⟩⟩
def Yt:V->List V->Hp->VK->Prop:=fun x vs H Q=>∃(p:Addr) (kvs:List (D7×V)),x= .ref p/\vs=[]/\H p=some (.dK kvs)/\∀r,H r=none->Q (.ref r) (upd H r (VVo r p))
theorem Xb:MtR X "dict.values" Yt:=by
 intro c7 s σ H x vs v us Q I rx rv h
 obtain⟨p,kvs,rfl,rfl,hp,q⟩:=h
 cases rx
 have AS:=rv.zero
 subst AS
 obtain⟨z,hd,ws,rel,dd⟩:=Fc I.hok hp
 refine ET Vz dd.typeIs PySem.F.entry_dict_values (PySem.F.args_dict_values_1 _) (PySem.meets_dict_values (A3 X.prog X.w) p hd) ⟨⟨_,dd⟩,?_⟩
 have g:(s.heap.push {cls:= .type "dict_values",data:= .fields #[.ref p]}).get? s.heap.objs.size=some {cls:= .type "dict_values",data:= .fields #[.ref p]}:=W8 _ rfl
 exact⟨.ref s.heap.objs.size,_,I.laid (o:=VVo s.heap.objs.size p) (t':=s.toks) (fun b o e=>Q2 _ e) (l9 _) (Wi ⟨_,g,rfl,rfl⟩),rfl,q _ (I.hok.fresh (l9 _))⟩
end
theorem XX{b:Addr}{P:Addr->Prop}:(∃k,V.ref b=V.ref k/\P k)=P b:=propext ⟨fun h=>by obtain⟨k,e,h⟩:=h;cases e;exact h,fun h=>by exact⟨b,rfl,h⟩⟩
theorem XW{α0:Sort _}{b:Addr}{P:Addr->α0->Prop}:(∃k y0,V.ref b=V.ref k/\P k y0)=(∃y0,P b y0):=propext ⟨fun h=>by obtain⟨k,y0,e,h⟩:=h;cases e;exact⟨y0,h⟩,fun h=>by obtain⟨y0,h⟩:=h;exact⟨b,y0,rfl,h⟩⟩
theorem XV{α0:Sort _}{α1:Sort _}{b:Addr}{P:Addr->α0->α1->Prop}:(∃k y0 y1,V.ref b=V.ref k/\P k y0 y1)=(∃y0 y1,P b y0 y1):=propext ⟨fun h=>by obtain⟨k,y0,y1,e,h⟩:=h;cases e;exact⟨y0,y1,h⟩,fun h=>by obtain⟨y0,y1,h⟩:=h;exact⟨b,y0,y1,rfl,h⟩⟩
theorem XU{α0:Sort _}{α1:Sort _}{α2:Sort _}{b:Addr}{P:Addr->α0->α1->α2->Prop}:(∃k y0 y1 y2,V.ref b=V.ref k/\P k y0 y1 y2)=(∃y0 y1 y2,P b y0 y1 y2):=propext ⟨fun h=>by obtain⟨k,y0,y1,y2,e,h⟩:=h;cases e;exact⟨y0,y1,y2,h⟩,fun h=>by obtain⟨y0,y1,y2,h⟩:=h;exact⟨b,y0,y1,y2,rfl,h⟩⟩
theorem XT{α0:Sort _}{α1:Sort _}{α2:Sort _}{α3:Sort _}{b:Addr}{P:Addr->α0->α1->α2->α3->Prop}:(∃k y0 y1 y2 y3,V.ref b=V.ref k/\P k y0 y1 y2 y3)=(∃y0 y1 y2 y3,P b y0 y1 y2 y3):=propext ⟨fun h=>by obtain⟨k,y0,y1,y2,y3,e,h⟩:=h;cases e;exact⟨y0,y1,y2,y3,h⟩,fun h=>by obtain⟨y0,y1,y2,y3,h⟩:=h;exact⟨b,y0,y1,y2,y3,rfl,h⟩⟩
theorem Ro{b:Addr}{P:Addr->Prop}:(∃k,[V.ref b]=[V.ref k]/\P k)=P b:=propext ⟨fun h=>by obtain⟨k,e,h⟩:=h;cases e;exact h,fun h=>by exact⟨b,rfl,h⟩⟩
theorem Rn{α0:Sort _}{b:Addr}{P:Addr->α0->Prop}:(∃k y0,[V.ref b]=[V.ref k]/\P k y0)=(∃y0,P b y0):=propext ⟨fun h=>by obtain⟨k,y0,e,h⟩:=h;cases e;exact⟨y0,h⟩,fun h=>by obtain⟨y0,h⟩:=h;exact⟨b,y0,rfl,h⟩⟩
theorem Rm{α0:Sort _}{α1:Sort _}{b:Addr}{P:Addr->α0->α1->Prop}:(∃k y0 y1,[V.ref b]=[V.ref k]/\P k y0 y1)=(∃y0 y1,P b y0 y1):=propext ⟨fun h=>by obtain⟨k,y0,y1,e,h⟩:=h;cases e;exact⟨y0,y1,h⟩,fun h=>by obtain⟨y0,y1,h⟩:=h;exact⟨b,y0,y1,rfl,h⟩⟩
theorem Rl{α0:Sort _}{α1:Sort _}{α2:Sort _}{b:Addr}{P:Addr->α0->α1->α2->Prop}:(∃k y0 y1 y2,[V.ref b]=[V.ref k]/\P k y0 y1 y2)=(∃y0 y1 y2,P b y0 y1 y2):=propext ⟨fun h=>by obtain⟨k,y0,y1,y2,e,h⟩:=h;cases e;exact⟨y0,y1,y2,h⟩,fun h=>by obtain⟨y0,y1,y2,h⟩:=h;exact⟨b,y0,y1,y2,rfl,h⟩⟩
theorem Ya{b:Int}{P:Int->Prop}:(∃k,V.int b=V.int k/\P k)=P b:=propext ⟨fun h=>by obtain⟨k,e,h⟩:=h;cases e;exact h,fun h=>by exact⟨b,rfl,h⟩⟩
theorem XZ{α0:Sort _}{b:Int}{P:Int->α0->Prop}:(∃k y0,V.int b=V.int k/\P k y0)=(∃y0,P b y0):=propext ⟨fun h=>by obtain⟨k,y0,e,h⟩:=h;cases e;exact⟨y0,h⟩,fun h=>by obtain⟨y0,h⟩:=h;exact⟨b,y0,rfl,h⟩⟩
theorem XY{α0:Sort _}{α1:Sort _}{b:Int}{P:Int->α0->α1->Prop}:(∃k y0 y1,V.int b=V.int k/\P k y0 y1)=(∃y0 y1,P b y0 y1):=propext ⟨fun h=>by obtain⟨k,y0,y1,e,h⟩:=h;cases e;exact⟨y0,y1,h⟩,fun h=>by obtain⟨y0,y1,h⟩:=h;exact⟨b,y0,y1,rfl,h⟩⟩
theorem Rs{b:Int}{P:Int->Prop}:(∃k,[V.int b]=[V.int k]/\P k)=P b:=propext ⟨fun h=>by obtain⟨k,e,h⟩:=h;cases e;exact h,fun h=>by exact⟨b,rfl,h⟩⟩
theorem Rr{α0:Sort _}{b:Int}{P:Int->α0->Prop}:(∃k y0,[V.int b]=[V.int k]/\P k y0)=(∃y0,P b y0):=propext ⟨fun h=>by obtain⟨k,y0,e,h⟩:=h;cases e;exact⟨y0,h⟩,fun h=>by obtain⟨y0,h⟩:=h;exact⟨b,y0,rfl,h⟩⟩
theorem Rq{α0:Sort _}{α1:Sort _}{b:Int}{P:Int->α0->α1->Prop}:(∃k y0 y1,[V.int b]=[V.int k]/\P k y0 y1)=(∃y0 y1,P b y0 y1):=propext ⟨fun h=>by obtain⟨k,y0,y1,e,h⟩:=h;cases e;exact⟨y0,y1,h⟩,fun h=>by obtain⟨y0,y1,h⟩:=h;exact⟨b,y0,y1,rfl,h⟩⟩
theorem XS{b:Str}{P:Str->Prop}:(∃k,V.str b=V.str k/\P k)=P b:=propext ⟨fun h=>by obtain⟨k,e,h⟩:=h;cases e;exact h,fun h=>by exact⟨b,rfl,h⟩⟩
theorem XR{α0:Sort _}{b:Str}{P:Str->α0->Prop}:(∃k y0,V.str b=V.str k/\P k y0)=(∃y0,P b y0):=propext ⟨fun h=>by obtain⟨k,y0,e,h⟩:=h;cases e;exact⟨y0,h⟩,fun h=>by obtain⟨y0,h⟩:=h;exact⟨b,y0,rfl,h⟩⟩
theorem XQ{α0:Sort _}{α1:Sort _}{b:Str}{P:Str->α0->α1->Prop}:(∃k y0 y1,V.str b=V.str k/\P k y0 y1)=(∃y0 y1,P b y0 y1):=propext ⟨fun h=>by obtain⟨k,y0,y1,e,h⟩:=h;cases e;exact⟨y0,y1,h⟩,fun h=>by obtain⟨y0,y1,h⟩:=h;exact⟨b,y0,y1,rfl,h⟩⟩
theorem Rk{b:Str}{P:Str->Prop}:(∃k,[V.str b]=[V.str k]/\P k)=P b:=propext ⟨fun h=>by obtain⟨k,e,h⟩:=h;cases e;exact h,fun h=>by exact⟨b,rfl,h⟩⟩
theorem Rj{α0:Sort _}{b:Str}{P:Str->α0->Prop}:(∃k y0,[V.str b]=[V.str k]/\P k y0)=(∃y0,P b y0):=propext ⟨fun h=>by obtain⟨k,y0,e,h⟩:=h;cases e;exact⟨y0,h⟩,fun h=>by obtain⟨y0,h⟩:=h;exact⟨b,y0,rfl,h⟩⟩
theorem Ri{α0:Sort _}{α1:Sort _}{b:Str}{P:Str->α0->α1->Prop}:(∃k y0 y1,[V.str b]=[V.str k]/\P k y0 y1)=(∃y0 y1,P b y0 y1):=propext ⟨fun h=>by obtain⟨k,y0,y1,e,h⟩:=h;cases e;exact⟨y0,y1,h⟩,fun h=>by obtain⟨y0,y1,h⟩:=h;exact⟨b,y0,y1,rfl,h⟩⟩
theorem Qbz{b:Bool}{P:Bool->Prop}:(∃k,V.bl b=V.bl k/\P k)=P b:=propext ⟨fun h=>by obtain⟨k,e,h⟩:=h;cases e;exact h,fun h=>by exact⟨b,rfl,h⟩⟩
theorem Qby{α0:Sort _}{b:Bool}{P:Bool->α0->Prop}:(∃k y0,V.bl b=V.bl k/\P k y0)=(∃y0,P b y0):=propext ⟨fun h=>by obtain⟨k,y0,e,h⟩:=h;cases e;exact⟨y0,h⟩,fun h=>by obtain⟨y0,h⟩:=h;exact⟨b,y0,rfl,h⟩⟩
theorem Qbx{α0:Sort _}{α1:Sort _}{b:Bool}{P:Bool->α0->α1->Prop}:(∃k y0 y1,V.bl b=V.bl k/\P k y0 y1)=(∃y0 y1,P b y0 y1):=propext ⟨fun h=>by obtain⟨k,y0,y1,e,h⟩:=h;cases e;exact⟨y0,y1,h⟩,fun h=>by obtain⟨y0,y1,h⟩:=h;exact⟨b,y0,y1,rfl,h⟩⟩
theorem Yd{b:Bool}{P:Bool->Prop}:(∃k,[V.bl b]=[V.bl k]/\P k)=P b:=propext ⟨fun h=>by obtain⟨k,e,h⟩:=h;cases e;exact h,fun h=>by exact⟨b,rfl,h⟩⟩
theorem Yc{α0:Sort _}{b:Bool}{P:Bool->α0->Prop}:(∃k y0,[V.bl b]=[V.bl k]/\P k y0)=(∃y0,P b y0):=propext ⟨fun h=>by obtain⟨k,y0,e,h⟩:=h;cases e;exact⟨y0,h⟩,fun h=>by obtain⟨y0,h⟩:=h;exact⟨b,y0,rfl,h⟩⟩
theorem Yb{α0:Sort _}{α1:Sort _}{b:Bool}{P:Bool->α0->α1->Prop}:(∃k y0 y1,[V.bl b]=[V.bl k]/\P k y0 y1)=(∃y0 y1,P b y0 y1):=propext ⟨fun h=>by obtain⟨k,y0,y1,e,h⟩:=h;cases e;exact⟨y0,y1,h⟩,fun h=>by obtain⟨y0,y1,h⟩:=h;exact⟨b,y0,y1,rfl,h⟩⟩
theorem Yg{v:V}{l:St}{H:Hp}{Q:VK}:IG 0 (some v::l) H Q=Q v H:=by unfold IG;simp only[List.getElem?_cons_zero,Option.some.injEq,exists_eq_left']
theorem Yf{n:Nat}{o:Option V}{l:St}{H:Hp}{Q:VK}:IG (n+1) (o::l) H Q=IG n l H Q:=rfl
theorem Qbl{K:n9}{x qual:Str}{st:Stmt}{f:Addr}(h:∃(oc:Value) (od an:Option Addr) (osl:Array (Option Value)) (kV doc pm H9 ct:Value),K.lookup f=some ⟨oc,od, .func (PySem.W.fnOf x qual (BE st) (Ap st) (i7 st) .none kV doc pm an H9 ct),osl⟩/\PySem.W.codeIn K H9 qual=true/\PySem.W.keepIn K (.ref f)=true):∃fd,Fun K x qual st f fd:=by
 obtain⟨oc,od,an,osl,kV,doc,pm,H9,ct,l,c,k⟩:=h
 exact⟨_,UH l c k⟩
theorem BW{α:Type}{us:List α}(h:us.length=1):∃a,us=[a]:=by
 cases us with
 |nil=>cases h
 |cons a l=>exact⟨a,by rw[Dy (GV h)]⟩
theorem PD{α:Type}{us:List α}(h:us.length=2):∃a b,us=[a,b]:=by
 cases us with
 |nil=>cases h
 |cons a l=>obtain⟨b,rfl⟩:=BW (GV h);exact⟨a,b,rfl⟩
theorem VV{α:Type}{us:List α}(h:us.length=3):∃a b c,us=[a,b,c]:=by
 cases us with
 |nil=>cases h
 |cons a l=>obtain⟨b,c,rfl⟩:=PD (GV h);exact⟨a,b,c,rfl⟩
theorem us4{α:Type}{us:List α}(h:us.length=4):∃a b c d,us=[a,b,c,d]:=by
 cases us with
 |nil=>cases h
 |cons a l=>obtain⟨b,c,d,rfl⟩:=VV (GV h);exact⟨a,b,c,d,rfl⟩
theorem QbZ{i j:Int}:Wu (.int i) (.int j)=true:=rfl
theorem QbU{i j:Str}:Wu (.str i) (.str j)=true:=rfl
theorem gN0{v:V}{o:Option V}{l:St}{H:Hp}{Q:St->Hp->Prop}:BU 0 v (o::l) H Q=Q (some v::l) H:=rfl
theorem gNS{n:Nat}{v:V}{o:Option V}{l:St}{H:Hp}{Q:St->Hp->Prop}:BU (n+1) v (o::l) H Q=BU n v l H fun l' H'=>Q (o::l') H':=rfl
def Wk(i:Nat):TE:=fun σ H Q=>match σ[i]? with|some (some v)=>Q v H|_=>False
theorem QbG{v:V}{l:St}{H:Hp}{Q:VK}:Wk 0 (some v::l) H Q=Q v H:=rfl
theorem QbF{n:Nat}{o:Option V}{l:St}{H:Hp}{Q:VK}:Wk (n+1) (o::l) H Q=Wk n l H Q:=rfl
theorem i6{X:Cx}(i:Nat){x:Str}{pos:Pos}(hN:X.N[i]? =some x:=by rfl)(hv:Vis X.env.scope x:=by first|exact Or.inl rfl|exact Or.inr (Or.inl rfl)|exact Or.inr (Or.inr rfl))(hd:(x==("__debug__":Str))=false:=by decide)
  (Lo:(x==("__classdict__":Str))=false:=by decide):PE X (.Name x pos) (Wk i):=fun c7 s σ H Q I h=>To hN hv hd Lo c7 s σ H Q I (by
 unfold Wk at h
 cases e:σ[i]? with
 |none=>rw[e] at h;exact h.elim
 |some o=>
  cases o with
  |none=>rw[e] at h;exact h.elim
  |some v=>rw[e] at h;exact⟨v,e,h⟩)
theorem Yh{i:Nat}{te:TE}{ti:TIp}{D:Ends}{σ:St}{H:Hp}:Wo i te ti D σ H=IG i σ H fun x H0=>te σ H0 fun y H1=>ti x y H1 fun z H2=>BU i z σ H2 D.nx:=rfl
theorem Qcz{f:Int->Int->Int}{i j:Int}{H:Hp}{Q:VK}:ipI f (.int i) (.int j) H Q=Q (.int (f i j)) H:=by unfold ipI;simp only[V.int.injEq,exists_eq_left',exists_and_left,exists_eq_left]
theorem rI_{C:Int->Int->Prop}{g:Int->Int->V}{i j:Int}{H:Hp}{Q:VK}:rI C g (.int i) (.int j) H Q=(C i j/\Q (g i j) H):=by unfold rI;simp only[V.int.injEq,exists_eq_left',exists_and_left,exists_eq_left]
theorem Qb3{g:Int->Int->V}{i j:Int}{H:Hp}{Q:VK}:QW g (.int i) (.int j) H Q=Q (g i j) H:=by unfold QW;simp only[V.int.injEq,exists_eq_left',exists_and_left,exists_eq_left]
theorem rU_{g:Int->V}{i:Int}{H:Hp}{Q:VK}:rU g (.int i) H Q=Q (g i) H:=by unfold rU;simp only[V.int.injEq,exists_eq_left',exists_and_left,exists_eq_left]
theorem Qb5{i j:Int}{H:Hp}{Q:VK}:rEq (.int i) (.int j) H Q=Q (.bl (decide (i=j))) H:=propext ⟨fun h=>by simpa only[V.int.injEq] using h.2,fun h=>⟨rfl,by simpa only[V.int.injEq] using h⟩⟩
theorem Qb4{i j:Str}{H:Hp}{Q:VK}:rEq (.str i) (.str j) H Q=Q (.bl (decide (i=j))) H:=propext ⟨fun h=>by simpa only[V.str.injEq] using h.2,fun h=>⟨rfl,by simpa only[V.str.injEq] using h⟩⟩
theorem Qb2{i j:Int}{H:Hp}{Q:VK}:rNe (.int i) (.int j) H Q=Q (.bl (!decide (i=j))) H:=propext ⟨fun h=>by simpa only[V.int.injEq] using h.2,fun h=>⟨rfl,by simpa only[V.int.injEq] using h⟩⟩
theorem Qb1{i j:Str}{H:Hp}{Q:VK}:rNe (.str i) (.str j) H Q=Q (.bl (!decide (i=j))) H:=propext ⟨fun h=>by simpa only[V.str.injEq] using h.2,fun h=>⟨rfl,by simpa only[V.str.injEq] using h⟩⟩
theorem Yx{l:Addr}{y:V}{H:Hp}{Q:VK}:DZ (.ref l) [y] H Q=∃xs,H l=some (.lst xs)/\xs.length<sizeLine/\Q .non (upd H l (.lst (xs++[y]))):=by unfold DZ;simp only[V.ref.injEq,V.int.injEq,V.str.injEq,V.bl.injEq,List.cons.injEq,and_true,exists_and_left,exists_eq_left',exists_eq_left,and_assoc,true_and,exists_eq',exists_const]
theorem Yw{l b:Addr}{H:Hp}{Q:VK}:Tc (.ref l) (.ref b) H Q=∃xs,H l=some (.lst xs)/\∃zs,H b=some (.lst zs)/\xs.length+zs.length<=sizeLine/\∀p,H p=none->Q (.ref p) (upd H p (.lst (xs++zs))):=by unfold Tc;simp only[V.ref.injEq,V.int.injEq,V.str.injEq,V.bl.injEq,List.cons.injEq,and_true,exists_and_left,exists_eq_left',exists_eq_left,and_assoc,true_and]
theorem Yv{K:n9}{p:Addr}{i:Int}{H:Hp}{Q:VK}:Qd K (.ref p) (.int i) H Q=∃xs,o6 K H p xs/\∃v,DI xs i=some v/\Q v H:=by unfold Qd;simp only[V.ref.injEq,V.int.injEq,V.str.injEq,V.bl.injEq,List.cons.injEq,and_true,exists_and_left,exists_eq_left',exists_eq_left,and_assoc,true_and]
theorem Yu{K:n9}{p:Addr}{i:Int}{H:Hp}{Q:VK}:Qc K (.ref p) (.int i) H Q=∃xs,AG K H p xs/\∃v,DI xs i=some v/\Q v H:=by unfold Qc;simp only[V.ref.injEq,V.int.injEq,V.str.injEq,V.bl.injEq,List.cons.injEq,and_true,exists_and_left,exists_eq_left',exists_eq_left,and_assoc,true_and]
theorem UG{t:TG}{u:XI}{v:V}{r:List V}{σ:St}{H:Hp}{Q:St->Hp->Prop}:Gq t u (v::r) σ H Q=t v σ H fun σ' H'=>u r σ' H' Q:=by unfold Gq;simp only[V.ref.injEq,V.int.injEq,V.str.injEq,V.bl.injEq,List.cons.injEq,and_true,exists_and_left,exists_eq_left',exists_eq_left,and_assoc,true_and,exists_const]
theorem YM{σ:St}{H:Hp}{Q:St->Hp->Prop}:Qy [] σ H Q=Q σ H:=by unfold Qy;simp only[true_and]
theorem RL{sp:Sp}{E:XK}{t:TA}{σ:St}{H:Hp}{Q:VK}:HH sp [] E t σ H Q=t σ H fun vs H1=>sp vs H1 Q E:=by unfold HH;simp only[List.append_nil]
theorem C8{C:Addr}{m:Str}{sp:Sp}{E:XK}{ta:TE}{t:TA}{σ:St}{H:Hp}{Q:VK}:NT C m sp [] E ta t σ H Q=ta σ H fun x H1=>∃a dx fs,x= .ref a/\H1 a=some (.ins C dx fs)/\fs.lookup m=none/\t σ H1 fun vs H2=>sp (x::vs) H2 Q E:=by unfold NT;simp only[List.append_nil]
theorem Mm{C:Addr}{sp:Sp}{E:XK}{t:TA}{σ:St}{H:Hp}{Q:VK}:RH C sp [] E t σ H Q=t σ H fun vs H1=>∀x dx,H1 x=none->H1 dx=none->dx≠x->sp (.ref x::vs) (upd (upd H1 dx (.own x)) x (.ins C dx [])) (fun v H2=>v= .non/\Q (.ref x) H2) E:=by unfold RH;simp only[List.append_nil]
section
variable {X:Cx} {c7:List (Addr×Obj)} {σ:St} {H:Hp} {s:Shared} {d:Addr}
theorem Inw.thaw{o:Obj}{kvs:List (D7×V)}(I:Inw X c7 σ H s)(h:H d=some (.frz o (.dK kvs)))(n:∀o u,X.H₀ d≠some (.frz o u)):Inw X c7 σ (upd H d (.dK kvs)) s:=by
 have nn:∀b,H b=none->b≠d:=fun b e z=>by rw[z,h] at e;cases e
 have nt:∀b u,H b=some u->u≠ .frz o (.dK kvs)->b≠d:=fun b u e ne z=>by rw[z,h] at e;cases e;exact ne rfl
 refine⟨I.ok,I.os,I.bare,⟨I.base.keep,I.base.slot,fun b o e m x=> ?_,I.base.there,fun b xs e=> ?_,fun b o u e=> ?_,fun b ps e=> ?_⟩,I.loc,I.cell,?_,fun x c e=> ?_,fun p hp=> ?_,fun b u e=> ?_,I.len⟩
 ·have:=I.base.free b o e m x
  rw[i4 (nn b this)];exact this
 ·have:=I.base.tups b xs e
  rw[i4 (nt b _ this (by intro z;cases z))];exact this
 ·have:=I.base.frzs b o u e
  rw[i4 (fun z=>n o u (by rw[<-z];exact e))];exact this
 ·obtain⟨more,q⟩:=I.base.tbls b ps e
  exact⟨more,by rw[i4 (nt b _ q (by intro z;cases z))];exact q⟩
 ·rw[i4 (nn _ I.free)];exact I.free
 ·rw[i4 (nn _ (I.freeC x c e))];exact I.freeC x c e
 ·obtain⟨h1,h2,h3⟩:=I.pin p hp
  exact⟨h1,by rw[i4 (nn _ h2)];exact h2,h3⟩
 ·have st:∀{b u},J4 X.prog X.w H s.heap b u->J4 X.prog X.w (upd H d (.dK kvs)) s.heap b u:=fun{b u} q=>q.stay (fun c v _ r=>r) (fun c r=>by rw[i4 (nt c _ r (by intro z;cases z))];exact r) fun c xs r=>by rw[i4 (nt c _ r (by intro z;cases z))];exact r
  by_cases eb:b=d
  ·subst eb
   rw[c5] at e
   cases e
   have q:=I.hok b _ h
   exact st q.2
  ·rw[i4 eb] at e
   exact st (I.hok b u e)
end
def Th(H H' H2:Hp):Prop:=H2=H'\/∃d o kvs,H d=some (.dK kvs)/\H' d=some (.frz o (.dK kvs))/\H2=upd H' d (.dK kvs)
def NS(t:TS):TS:=fun D σ H=>t {D with nx:=fun σ' H'=>∃H2,Th H H' H2/\D.nx σ' H2} σ H
theorem IY{X:Cx}{st:Stmt}{t:TS}(h:PS X st t):PS X st (NS t):=by
 intro c7 s σ H D I q
 refine PN (h c7 s σ H _ I q) fun f s1 g=> ?_
 cases f with
 |next=>
  obtain⟨σ',H',I',H2,th,g⟩:=g
  rcases th with rfl|⟨d,o,kvs,e,e',rfl⟩
  ·exact⟨σ',_,I',g⟩
  ·exact⟨σ',_,I'.thaw e' (fun o u z=>by have:=I.base.frzs d o u z;rw[e] at this;cases this),g⟩
 |ret v=>exact g
 |brk=>exact g
 |cont=>exact g
section
variable {X:Cx}
theorem Qa3{kvs:List (D7×V)}{vs:List (D7×Value)}{k:D7}{v:Value}(r:KV kvs vs):∀{ns:List Int} {i:Nat},kvs.map (·.2)=ns.map V.int->vs[i]? =some (k,v)->∃t,v= .int (ns.getD i 0) t:=by
 unfold KV at r
 induction r with
 |nil=>intro ns i _ e;simp at e
 |cons a _ ih=>
  intro ns i hn e
  cases ns with
  |nil=>simp at hn
  |cons n ns=>
   rw[List.map_cons,List.map_cons] at hn
   cases i with
   |zero=>
    simp at e
    have h2:=a.2
    rw[e,(Dx hn).1] at h2
    exact h2
   |succ i=>exact ih (ns:=ns) (i:=i) (Dx hn).2 (by simpa using e)
theorem QJ(hc:X.calm=true):Ae X (.builtin "sum") (fun xs H Q=>∃(r p:Addr) (kvs:List (D7×V)) (ns:List Int),xs=[.ref r]/\H r=some (VVo r p)/\H p=some (.dK kvs)/\kvs.map (·.2)=ns.map V.int/\Q (.int ns.sum) H):=by
 intro c7 s σ H xs us Q I r h
 obtain⟨v,p,kvs,ns,rfl,hv,hp,hk,q⟩:=h
 obtain⟨u,rfl,ru⟩:=vals1 r
 cases ru
 have kv:=(I.hok v _ hv).1
 obtain⟨z,hd,vs,rel,dd⟩:=Fc I.hok hp
 obtain⟨ep,da⟩:=dd.dictAt
 have hn:vs.length=ns.length:=by
  have:=congrArg List.length hk
  rw[i5,i5,rel.length] at this
  exact this
 have S:=PySem.W.kdl_values (prog:=X.prog) (w:=X.w) (knd:=A3 X.prog X.w) (d:=p) (r:=v) (kvs:=vs) (ep:=ep)
 obtain⟨oI,St,hI,W,U9⟩:=S.iter X.A.in1 s (I.ok.hd hc) ⟨kv,da⟩
 have lt:p<s.heap.objs.size:=(S.there _ ⟨kv,da⟩).2
 refine call_sum_walkAnyS (hI _ _ ⟨_,_,_,_,_,_,_,fun i=>ns.getD i 0,rfl,W.toS,U9,?_,?_,fun s' t' m=> ?_⟩)
 ·intro b hb
  rw[size_push']
  rcases E8.mp hb with z|z
  ·rw[z];exact GK _
  ·rw[D4.mp z];exact JU lt
 ·intro i v hv
  obtain⟨k,hk'⟩:=hv
  exact Qa3 rel hk hk'
 ·rw[hn,Do ns _ (l9 _),B7]
  refine⟨.int _,H,?_,⟨t',rfl⟩,q⟩
  have J:=I.kept (h':=s.heap.push oI) (t':=s.toks) fun b o z=>Q2 _ z
  obtain⟨g0,g1,g2,g3,g4,g5⟩:=I.fpOk (H':=H) (b:=s.heap.objs.size) (l9 _) (I.hok.fresh (l9 _))
  obtain⟨h',gn,dr,tk,os⟩:=s'
  obtain⟨mh,mg',md,mo,mt⟩:=m
  dsimp only at mh mg' md mo mt
  subst mg' md mo
  exact Inw.turned (s:={s with heap:=s.heap.push oI}) (h':=h') (t':=tk) (it:=s.heap.objs.size) J (fun b o hb z=>mh b o (by simpa using hb) z) g0 g1 g3 g4 g5
end
def Iti(d:Addr)(o:Obj)(kvs:List (D7×V)):It:=⟨fun i H=>i<kvs.length/\H d=some (.frz o (.dK kvs)),fun i H x H'=>∃T k v,kvs[i]? =some (k,v)/\H T=none/\x= .ref T/\H'=upd H T (.tup [kV k,v]),fun i H=>kvs.length<=i/\H d=some (.frz o (.dK kvs))⟩
theorem Xi{kvs:List (D7×V)}{vs:List (D7×Value)}(r:KV kvs vs){i:Nat}{k:D7}{v:Value}(h:vs[i]? =some (k,v)):∃y,kvs[i]? =some (k,y)/\RelV y v:=by
 unfold KV at r
 induction r generalizing i with
 |nil=>simp at h
 |cons a _ ih=>
  cases i with
  |zero=>
   simp at h
   rename_i p q _ _ _
   have e:=a.1
   have e2:=a.2
   rw[h] at e e2
   exact⟨p.2,by simp;exact Prod.ext e rfl,e2⟩
  |succ i=>simpa using ih (by simpa using h)
theorem Gu:entryFor table "dict_itemiterator.__iter__"=some Builtin.«dict_keyiterator.__iter__»:=entryFor_alias (id (Eq.refl (fastTable "dict_itemiterator.__iter__"))) rfl (by first|rfl|decide+kernel) (id (Eq.refl (fastTable "dict_keyiterator.__iter__")))
theorem Mg{P:Program}{w:World}{K:n9}{es:List Expr}{k:Nat}{tp:Pos}(d it:Addr)(o:Obj)(kvs:List (D7×V)){en:Array DictEntry}{ep:Nat}(hd:o.data= .dict en ep):Turn P w K (.Tuple es k tp) (Iti d o kvs) [it] it (fun i h=>∃ok ov,IsItemIter h it d i kvs.length ep ok ov) where
 mem:=by simp
 obj:=fun i h st b hb=>by
  have e:b=it:=by simpa using hb
  subst e
  obtain⟨ok,ov,e⟩:=st
  exact⟨_,e,fun v z=>by
   have z':Data.fields _=Data.cell v:=z
   cases z'⟩
 keep:=fun i h h' st k=>let ⟨ok,ov,e⟩:=st;⟨ok,ov,k it (by simp) _ e⟩
 item:=by
  intro X hP hw hK hc i c7 s σ H E I hf st hg
  subst hP hw hK
  obtain⟨hi,hfz⟩:=hg
  obtain⟨ok,ov,st⟩:=st
  obtain⟨g1,g2,vs,ep',es',e1,rel,da⟩:=Jv I.hok hfz
  rw[hd] at e1
  cases e1
  have hl:=S8 rel
  obtain⟨f0,f1,f2,f3,f4,f5⟩:=hf it (by simp)
  have hx:vs[i]? =some (vs[i]'(by omega)):=u9 _
  obtain⟨y,hy,ry⟩:=Xi rel (k:=(vs[i]'(by omega)).1) (v:=(vs[i]'(by omega)).2) hx
  rw[hl] at st
  refine wpAny_pyNext_items_item (k:=(vs[i]'(by omega)).1) (v:=(vs[i]'(by omega)).2) st da hx fun key h' hk ho hT hsz hkp=> ?_
  refine⟨_,rfl,wpAny_letOwnedTupleGo_items ho fun h2 he2 hs2=> ?_⟩
  have Xr:it<s.heap.objs.size:=O9 st
  have k2:∀b o,b≠it->s.heap.get? b=some o->h2.get? b=some o:=fun b o b1 q=>hs2.extBut b o b1 (hkp b o b1 q)
  have hT2:=hs2.extBut _ _ (Iw Xr) hT
  have I0:Inw X c7 σ H {s with heap:=h2}:=I.turned (t':=s.toks) (fun b o hb e=>k2 b o hb e) f0 f1 f3 f4 f5
  have fn:H s.heap.objs.size=none:=I.hok.fresh (l9 _)
  generalize (vs[i]'(by omega)).1 =kk at hx hy hk
  generalize (vs[i]'(by omega)).2 =vv at hx ry hT ho he2 hT2
  have I1:Inw X c7 σ (upd H s.heap.objs.size (.tup [kV kk,y])) {s with heap:=h2}:=by
   obtain⟨m,⟨oL,es,ep,hoL,rL⟩,_⟩:=id I.loc
   refine I.step (g':=s.gens) (d':=s.drawn) (t':=s.toks) (ch:=[it]) (fun b hb=> ?_) (fun b o _ _ Ju q _=>k2 b o (fun z=>Ju (by simp [z])) q)
    (fun b o _ _ Ju q _=>⟨o.slots,k2 b o (fun z=>Ju (by simp [z])) q⟩) (fun b o _ q n=> ?_) (fun b o Ju q=>⟨o,k2 b o (fun z=>Ju (by simp [z])) q⟩)
    (fun b ys q=>by rw[i4 (k9 q fn)];exact q) (fun b o u q=>by rw[i4 (k9 q fn)];exact q) (fun b ps q=>⟨#[],by rw[i4 (k9 q fn),q];simp⟩) (fun m' hm=> ?_) (fun b v q=> ?_) I.bare
   ·rw[D4.mp hb];exact⟨f3,f1,f4,f5⟩
   ·rw[i4 (M7 (O9 q))];exact n
   ·obtain⟨o',es',ep',ho',r'⟩:=hm
    exact⟨o',es',ep',k2 _ _ (Y4 f1) ho',r'⟩
   ·by_cases hb:b=s.heap.objs.size
    ·subst hb
     rw[c5] at q
     cases q
     exact⟨by show 2<=sizeLine;decide,[key,vv], .cons (MU hk) (.cons ry .nil),_,hT2,rfl,_,rfl⟩
    ·rw[i4 hb] at q
     refine(I.hok b v q).stay (fun c w Ju r=>k2 c w ?_ r) (fun c r=>by rw[i4 (k9 r fn)];exact r) fun c ys r=>by rw[i4 (k9 r fn)];exact r
     intro z;subst z
     rcases Ju with z|z
     ·rw[<-z,f0] at q;cases q
     ·rw[f0] at z;cases z
  refine⟨.ref s.heap.objs.size,_,I1,rfl,⟨_,kk,y,hy,fn,rfl,rfl⟩,⟨_,_,by rw[<-hl] at he2;exact he2⟩,fun b hb=> ?_⟩
  rw[D4.mp hb,i4 (M7 Xr)];exact f0
 done:=by
  intro X hP hw hK hc i c7 s σ H E I hf st hg
  subst hP hw hK
  obtain⟨hi,hfz⟩:=hg
  obtain⟨ok,ov,st⟩:=st
  obtain⟨g1,g2,vs,ep',es',e1,rel,da⟩:=Jv I.hok hfz
  rw[hd] at e1
  cases e1
  have hl:=S8 rel
  rw[hl] at st
  obtain⟨f0,f1,f2,f3,f4,f5⟩:=hf it (by simp)
  exact wpAny_pyNext_items_end (I.ok.hd hc) st da (CJ (by omega)) fun h' eb=>⟨rfl,I.turned (t':=s.toks) (fun b o hb e=>eb b o hb e) f0 f1 f3 f4 f5⟩
 self:=fun _ _ _ _ _ st h=>by
  obtain⟨ok,ov,e⟩:=st
  have ty:Shared.TypeIs _ (Value.ref it) "dict_itemiterator":=⟨_,e,rfl⟩
  exact wpAny_pyIter_slot ty Vy (wpAny_call_entry Vy ty Gu (J3 ⟨Value.ref it,rfl,"dict_itemiterator", .builtin "dict_itemiterator.__next__",ty,F.slot_dict_itemiterator_next.lookup,h⟩) (F.args_dict_itemiterator_iter_1 _))
section
variable {X:Cx} {es:List Expr} {k:Nat} {tp:Pos}
def IVo(r d:Addr):HO:= .ext fun h=>h.IsItemsView r d
theorem Xm{P:Program}{w:World}{H:Hp}{h:Heap}{r d:Addr}(x:h.IsItemsView r d):J4 P w H h r (IVo r d):=by
 obtain⟨o,ho,hc,hd⟩:=id x
 exact⟨x,⟨o,ho⟩,fun h1 h2 ⟨o1,g1,r1⟩ k=>⟨o1,k o1 g1,r1⟩⟩
def Tb:V->List V->Hp->VK->Prop:=fun x vs H Q=>∃(p:Addr) (kvs:List (D7×V)),x= .ref p/\vs=[]/\H p=some (.dK kvs)/\∀r,H r=none->Q (.ref r) (upd H r (IVo r p))
theorem TZ:MtR X "dict.items" Tb:=by
 intro c7 s σ H x vs v us Q I rx rv h
 obtain⟨p,kvs,rfl,rfl,hp,q⟩:=h
 cases rx
 have AS:=rv.zero
 subst AS
 obtain⟨z,hd,ws,rel,dd⟩:=Fc I.hok hp
 refine ET Vx dd.typeIs PySem.F.entry_dict_items (PySem.F.args_dict_items_1 _) (meets_dict_items (A3 X.prog X.w) p hd) ⟨⟨_,dd⟩,?_⟩
 have g:(s.heap.push {cls:= .type "dict_items",data:= .fields #[.ref p]}).get? s.heap.objs.size=some {cls:= .type "dict_items",data:= .fields #[.ref p]}:=W8 _ rfl
 exact⟨.ref s.heap.objs.size,_,I.laid (o:=IVo s.heap.objs.size p) (t':=s.toks) (fun b o e=>Q2 _ e) (l9 _) (Xm ⟨_,g,rfl,rfl⟩),rfl,q _ (I.hok.fresh (l9 _))⟩
def Us(tl:TE):TI:=fun σ H R=>tl σ H fun x H1=>∃r d kvs,x= .ref r/\H1 r=some (IVo r d)/\H1 d=some (.dK kvs)/\∀o,R (Iti d o kvs) (upd H1 d (.frz o (.dK kvs)))
theorem Tn{l:Expr}{tl:TE}(hl:PE X l tl):PI X (.Tuple es k tp) l (Us tl):=by
 intro c7 s σ H R I h
 refine P0 (hl c7 s σ H _ I h) fun v s1 ⟨x,H1,I1,r1,q1⟩=> ?_
 obtain⟨r,d,kvs,e,hv,hd,q⟩:=q1
 subst e
 cases r1
 have kv:=(I1.hok r _ hv).1
 obtain⟨z,hsm,vs,rel,o,es,ep,g1,g2,g3,g4⟩:=Fc I1.hok hd
 have da:s1.heap.DictAt (A3 X.prog X.w) d vs ep:=⟨o,es,g1,g2,g3,g4⟩
 refine wpAny_pyIter_items kv da ?_
 have J:Inw X c7 σ (upd H1 d (.frz o (.dK kvs))) s1:=I1.write (x:=d) (e:=d) (t':=s1.toks) (by rw[hd];exact True.intro) (.inl rfl) (fun b u _ z=>z) ⟨o,g1⟩ ⟨g1,z,hsm,vs,rel,o,es,ep,g1,g2,g3,g4⟩
 have E2:vs.length=kvs.length:=(S8 rel).symm
 refine⟨s1.heap.objs.size,[s1.heap.objs.size],_,_,_,rfl,J.kept (t':=s1.toks) fun b o e=>Q2 _ e,Mg d _ o kvs g3,⟨_,_,by rw[E2];exact W8 _ rfl⟩,fun b hb=> ?_,q o⟩
 have e:b=s1.heap.objs.size:=by simpa using hb
 subst e
 exact J.fpOk (l9 _) (J.hok.fresh (l9 _))
end
theorem Nc{g:TG}{tb:TS}{D:Ends}{σ:St}{H:Hp}{d:Addr}{o:Obj}{kvs:List (D7×V)}(Pv:Nat->St->Hp->Prop)(h0:Pv 0 σ H)(hf:∀i σ H,Pv i σ H->H d=some (.frz o (.dK kvs)))
  (hs:∀i k v T σ H,kvs[i]? =some (k,v)->Pv i σ H->H T=none->g (.ref T) σ (upd H T (.tup [kV k,v])) fun σ2 H2=>tb {D with nx:=Pv (i+1),ct:=Pv (i+1),bk:=D.nx} σ2 H2)(hd:∀σ H,Pv kvs.length σ H->D.nx σ H):NJ g tb D σ (Iti d o kvs) H:=by
 refine⟨fun i m σ H=>m=kvs.length-i/\i<=kvs.length/\Pv i σ H,⟨kvs.length,by simp,x5 _,h0⟩,?_⟩
 rintro i m σ H ⟨rfl,hi,p⟩
 by_cases T8:i<kvs.length
 ·refine .inr ⟨⟨T8,hf i σ H p⟩,Pv (i+1),fun σ' H' p'=>⟨kvs.length-(i+1),by omega,rfl,T8,p'⟩,fun x H' y=> ?_⟩
  obtain⟨T,k,v,hk,hT,e1,e2⟩:=y
  subst e1 e2
  exact hs i k v T σ H hk p hT
 ·have e:i=kvs.length:=by omega
  subst e
  exact .inl ⟨⟨l9 _,hf _ σ H p⟩,hd σ H p⟩
section
variable {prog:Program} {w:World} {A:Around} {E:Value->Shared->Prop} {s:Shared}
theorem MO(d:Addr)(hd:(d==sysModules)=false):MeetsIn prog w (Builtin.«dict.__len__» {pos:=[Value.ref d]}) fun x R s=>∃o es ep,s.heap.get? d=some o/\o.data=Data.dict es ep/\R (Except.ok (Flow.ret (Value.int (es.size:Int) s.toks))) {s with toks:=s.toks+1}:=
 MeetsIn.of_wp fun A R s ⟨o,es,ep,ho,Qw,h⟩=>by
  show wpAny _ _ (do let n<-dictSize d;let k<-Builtin.Dict.pendingCount d;retInt ((n:Int)+(k:Int))) _ _ _
  refine x6 (m:=dictSize d) (x6 (wpAny_dictEntries ho Qw (J3 (x6 (wpAny_pendingCount_other hd (wpAny_ret_mkInt ?_))))))
  simpa using h
theorem QL{d:Addr}{o:Obj}{es:Array DictEntry}{ep:Nat}{Q:Value->Shared->Prop}(hd:(d==sysModules)=false)(ho:s.heap.get? d=some o)(hc:o.cls= .type "dict")(Qw:o.data= .dict es ep)(hfit:(es.size:Int)<2^63)
  (h:Q (Value.int (es.size:Int) (s.toks+1)) {s with toks:=s.toks+1+1}):wpAny (model prog w) A (call (Value.builtin "len") [Value.ref d]) Q E s:=by
 have ty:s.TypeIs (Value.ref d) "dict":=⟨o,ho,hc⟩
 refine VA kind_len plain_len entry_len (args_len1 _) ?_
 unfold Builtin.len
 refine x6 (m:=oneArg "len" ⟨[.ref d],[]⟩) (J3 (a:=Value.ref d) ?_)
 refine(x6 (wpAny_callSpecial?_slot ty F.slot_dict_len (ET F.slot_dict_len ty F.entry_dict_len (F.args_dict_len_1 _) (MO d hd) ⟨o,es,ep,ho,Qw,?_⟩)))
 refine x6 (m:=holding _ _) (Ix (J3 (a:=(es.size:Int)) (x6 (m:=letGo _) (wpAny_letGo ?_))))
 show wpAny _ _ (if (es.size:Int)<0 then _ else _) _ _ _
 rw[if_neg (by omega)]
 show wpAny _ _ (if (es.size:Int)≥2^63 then _ else _) _ _ _
 rw[if_neg (by omega)]
 exact x6 (wpAny_mkInt (J3 ⟨_,rfl,h⟩))
end
section
variable {X:Cx}
theorem QM:Ae X (.builtin "len") (fun xs H Q=>∃a kvs,xs=[V.ref a]/\H a=some (.dT kvs)/\Q (.int kvs.length) H):=by
 intro c7 s σ H xs us Q I r h
 obtain⟨a,kvs,rfl,ha,q⟩:=h
 obtain⟨u,rfl,ru⟩:=vals1 r
 cases ru
 obtain⟨z,hd,ys,rel,o,es,ep,h1,h2,h3,h4,_⟩:=YQ I.hok ha
 have e:es.size=kvs.length:=by
  rw[<-CD,h4,i5]
  exact rel.length.symm
 refine QL hd h1 h2.1 h3 (by rw[e];rw[T6] at z;omega) ?_
 rw[e]
 exact⟨.int kvs.length,H,I.tok _,⟨_,rfl⟩,q⟩
end
end L2
namespace KT
section
variable {κ α β:Type} [DecidableEq κ]
def mod(t:List (κ×α))(k:κ)(f:Option α->α):List (κ×α):=match t with
 |[]=>[(k,f none)]
 |x::r=>if x.1=k then (k,f (some x.2))::r else x::mod r k f
def get(t:List (κ×α))(k:κ):Option α:=match t with
 |[]=>none
 |x::r=>if x.1=k then some x.2 else get r k
theorem J7(t:List (κ×α))(k:κ)(f:Option α->α):get (mod t k f) k=some (f (get t k)):=by
 induction t with
 |nil=>simp [mod,get]
 |cons x r ih=>
  by_cases h:x.1=k
  ·simp [mod,get,h]
  ·simp [mod,get,h,ih]
theorem N4(t:List (κ×α)){k j:κ}(f:Option α->α)(h:j≠k):get (mod t k f) j=get t j:=by
 induction t with
 |nil=>simp [mod,get,Y4 h]
 |cons x r ih=>
  by_cases hx:x.1=k
  ·have:¬k=j:=fun e=>h e.symm
   simp [mod,get,hx,this]
  ·by_cases hj:x.1=j
   ·rw[mod,if_neg hx];simp [get,hj]
   ·rw[mod,if_neg hx];simp [get,hj,ih]
theorem Z3(t:List (κ×α))(k:κ)(f g:Option α->α):mod (mod t k f) k g=mod t k (fun o=>g (some (f o))):=by
 induction t with
 |nil=>simp [mod]
 |cons x r ih=>
  by_cases h:x.1=k
  ·simp [mod,h]
  ·simp [mod,h,ih]
theorem Ua(t:List (κ×α)){k j:κ}(f g:Option α->α)(h:j≠k)(hk:(get t k).isSome=true):mod (mod t j g) k f=mod (mod t k f) j g:=by
 induction t with
 |nil=>simp [get] at hk
 |cons x r ih=>
  by_cases hx:x.1=k
  ·have h2:¬x.1=j:=fun e=>h (e.symm.trans hx)
   have h3:¬k=j:=fun e=>h e.symm
   simp [mod,hx,h3]
  ·by_cases hj:x.1=j
   ·have h4:¬j=k:=h
    simp [mod,hj,h4,hx]
   ·simp only[get,if_neg hx] at hk
    simp [mod,hx,hj,ih hk]
theorem Z6(t:List (κ×α))(k:κ)(f:Option α->α):(mod t k f).map (·.1)=if k∈t.map (·.1) then t.map (·.1) else t.map (·.1)++[k]:=by
 induction t with
 |nil=>simp [mod]
 |cons x r ih=>
  by_cases h:x.1=k
  ·simp [mod,h]
  ·rw[mod,if_neg h,List.map_cons,ih,List.map_cons]
   have h':¬k=x.1:=fun e=>h e.symm
   by_cases hk:k∈r.map (·.1)
   ·rw[if_pos hk,if_pos (D5 _ hk)]
   ·rw[if_neg hk,if_neg (by simp only[E8,not_or];exact⟨h',hk⟩)]
    rfl
theorem An{t:List (κ×α)}{k:κ}{f:Option α->α}{x:κ×α}(h:x∈mod t k f):x∈t\/x=(k,f (get t k)):=by
 induction t with
 |nil=>simp [mod] at h;exact .inr (by simp [get,h])
 |cons y r ih=>
  by_cases hy:y.1=k
  ·rw[mod,if_pos hy] at h
   rcases E8.mp h with h|h
   ·exact .inr (by rw[h,get,if_pos hy])
   ·exact .inl (D5 _ h)
  ·rw[mod,if_neg hy] at h
   rcases E8.mp h with h|h
   ·exact .inl (by rw[h];exact C0)
   ·rcases ih h with h|h
    ·exact .inl (D5 _ h)
    ·exact .inr (by rw[h,get,if_neg hy])
theorem G8{t:List (κ×α)}{k:κ}{v:α}(h:get t k=some v):(k,v)∈t:=by
 induction t with
 |nil=>cases h
 |cons y r ih=>
  by_cases hy:y.1=k
  ·rw[get,if_pos hy] at h
   rw[<-Ab h,<-hy]
   exact C0
  ·rw[get,if_neg hy] at h
   exact D5 _ (ih h)
theorem T5{t:List (κ×α)}{k:κ}:(get t k).isSome=true↔k∈t.map (·.1):=by
 induction t with
 |nil=>simp [get]
 |cons x r ih=>
  by_cases h:x.1=k
  ·simp [get,h]
  ·have h':¬k=x.1:=fun e=>h e.symm
   rw[get,if_neg h,ih,List.map_cons,E8]
   exact⟨.inr,fun e=>e.resolve_left h'⟩
end
section
variable {κ:Type} [DecidableEq κ]
abbrev Pl(κ:Type):=List (κ×List Int)
def Y1(p:Pl κ)(w:κ)(i:Int):Pl κ:=mod p w fun o=>o.getD []++[i]
def BP(p:Pl κ)(i:Int):List κ->Pl κ
 |[]=>p
 |w::r=>BP (Y1 p w i) (i+1) r
abbrev Rw:=List (Int×List Int)
abbrev Wt(κ:Type):=List (κ×Rw)
def V0(m:Int)(D:Wt κ)(x:κ×List Int):Wt κ:=mod D x.1 fun o=>o.getD []++[(m,x.2)]
def putAll(m:Int)(D:Wt κ)(p:Pl κ):Wt κ:=p.foldl (V0 m) D
def Ji(m:Int)(D:Wt κ)(w:κ)(i:Int):Wt κ:=mod D w fun o=>mod (o.getD []) m fun q=>q.getD []++[i]
def WX(m:Int)(D:Wt κ)(i:Int):List κ->Wt κ
 |[]=>D
 |w::r=>WX m (Ji m D w i) (i+1) r
def Qbw(m:Int)(D:Wt κ):Prop:=∀w r,get D w=some r->get r m=none
theorem P4{κ α:Type}[DecidableEq κ]{r:List (κ×α)}{m:κ}(h:get r m=none)(f:Option α->α):mod r m f=r++[(m,f none)]:=by
 induction r with
 |nil=>simp [mod]
 |cons x r ih=>
  by_cases hx:x.1=m
  ·simp [get,hx] at h
  ·simp only[get,if_neg hx] at h
   simp [mod,hx,ih h]
theorem Jm{κ α:Type}[DecidableEq κ]{t:List (κ×α)}{k:κ}{v:α}(h:get t k=some v):mod t k (fun _=>v)=t:=by
 induction t with
 |nil=>cases h
 |cons x r ih=>
  by_cases hx:x.1=k
  ·rw[get,if_pos hx] at h
   rw[mod,if_pos hx,<-Ab h,<-hx]
  ·rw[get,if_neg hx] at h
   rw[mod,if_neg hx,ih h]
theorem Lb{r:Rw}{m:Int}{q:List Int}(h:get r m=none)(f:Option (List Int)->List Int):mod (r++[(m,q)]) m f=r++[(m,f (some q))]:=by
 induction r with
 |nil=>simp [mod]
 |cons x r ih=>
  by_cases hx:x.1=m
  ·simp [get,hx] at h
  ·simp only[get,if_neg hx] at h
   simp [mod,hx,ih h]
theorem K5{α:Type}{t:List (κ×α)}{k:κ}{f g:Option α->α}(h:f (get t k)=g (get t k)):mod t k f=mod t k g:=by
 induction t with
 |nil=>simp only[get] at h;simp [mod,h]
 |cons x r ih=>
  by_cases hx:x.1=k
  ·simp only[get,if_pos hx] at h
   simp [mod,hx,h]
  ·simp only[get,if_neg hx] at h
   simp [mod,hx,ih h]
theorem WY{m:Int}{D:Wt κ}{w:κ}{q:List Int}{i:Int}(hf:∀r,get D w=some r->get r m=none):Ji m (V0 m D (w,q)) w i=V0 m D (w,q++[i]):=by
 unfold Ji V0
 rw[Z3]
 apply K5
 have h0:get ((get D w).getD []) m=none:=by
  cases h:get D w with
  |none=>rfl
  |some r=>exact hf r h
 show mod ((some ((get D w).getD []++[(m,q)])).getD []) m _=_
 rw[DD,Lb h0]
 rfl
theorem WZ{m:Int}{D:Wt κ}{w:κ}{i:Int}(hf:∀r,get D w=some r->get r m=none):Ji m D w i=V0 m D (w,[i]):=by
 unfold Ji V0
 apply K5
 have h0:get ((get D w).getD []) m=none:=by
  cases h:get D w with
  |none=>rfl
  |some r=>exact hf r h
 rw[P4 h0]
 rfl
theorem OD{m:Int}{w:κ}{i:Int}:∀(p:Pl κ) (D:Wt κ),w∉p.map (·.1)->(get D w).isSome=true->Ji m (putAll m D p) w i=putAll m (Ji m D w i) p
 |[],D,_,_=>rfl
 |x::p,D,hn,hd=>by
  have hx:x.1≠w:=fun e=>hn (by rw[List.map_cons,<-e];exact C0)
  show Ji m (putAll m (V0 m D x) p) w i=putAll m (V0 m (Ji m D w i) x) p
  rw[OD p (V0 m D x) (fun e=>hn (D5 _ e)) (by unfold V0;rw[N4 _ _ (Y4 hx)];exact hd)]
  congr 1
  unfold Ji V0
  exact Ua D _ _ hx hd
theorem Ou{m:Int}{w:κ}{i:Int}:∀(p:Pl κ) (D:Wt κ),(∀r,get D w=some r->get r m=none)->(p.map (·.1)).Nodup->putAll m D (Y1 p w i)=Ji m (putAll m D p) w i
 |[],D,hf,_=>(WZ hf).symm
 |x::p,D,hf,nd=>by
  rw[List.map_cons,Y3] at nd
  by_cases hx:x.1=w
  ·have e:Y1 (x::p) w i=(w,x.2++[i])::p:=by unfold Y1;rw[mod,if_pos hx];rfl
   have ex:x=(w,x.2):=Prod.ext hx rfl
   rw[e]
   show putAll m (V0 m D (w,x.2++[i])) p=Ji m (putAll m (V0 m D x) p) w i
   rw[OD p (V0 m D x) (by rw[<-hx];exact nd.1) (by unfold V0;rw[hx,J7];rfl)]
   congr 1
   rw[ex]
   exact(WY hf).symm
  ·have e:Y1 (x::p) w i=x::Y1 p w i:=by unfold Y1;rw[mod,if_neg hx]
   rw[e]
   show putAll m (V0 m D x) (Y1 p w i)=Ji m (putAll m (V0 m D x) p) w i
   exact Ou p (V0 m D x) (fun r hr=>hf r (by unfold V0 at hr;rw[N4 _ _ (Y4 hx)] at hr;exact hr)) nd.2
theorem XG{p:Pl κ}{w:κ}{i:Int}{n:Nat}(h:∀x∈p,x.2.length<=n):∀x∈Y1 p w i,x.2.length<=n+1:=fun x hx=>by
 rcases An hx with h1|h1
 ·exact QS (h x h1)
 ·rw[h1]
  show ((get p w).getD []++[i]).length<=n+1
  rw[l0,Aa]
  cases hg:get p w with
  |none=>simp
  |some ps=>
   have:=h _ (G8 hg)
   exact Nat.succ_le_succ this
theorem Iy{p:Pl κ}{w:κ}{i:Int}(h:(p.map (·.1)).Nodup):((Y1 p w i).map (·.1)).Nodup:=by
 unfold Y1
 rw[Z6]
 split
 ·exact h
 ·rename_i hn
  rw[Dw]
  exact⟨h,by simp,fun a ha b hb=>by rw[D4.mp hb];intro e;rw[e] at ha;exact hn ha⟩
theorem Te{m:Int}{D:Wt κ}{y:κ×List Int}{n:Nat}(h:∀x∈D,x.2.length<=n):∀x∈V0 m D y,x.2.length<=n+1:=fun x hx=>by
 rcases An hx with h1|h1
 ·exact QS (h x h1)
 ·rw[h1]
  show ((get D y.1).getD []++[(m,y.2)]).length<=n+1
  rw[l0,Aa]
  cases hg:get D y.1 with
  |none=>simp
  |some r=>
   have:=h _ (G8 hg)
   exact Nat.succ_le_succ this
theorem putAll_snoc(m:Int)(D:Wt κ)(p:Pl κ)(x:κ×List Int):putAll m D (p++[x])=V0 m (putAll m D p) x:=by
 unfold putAll
 rw[Dv]
 rfl
theorem KS{m:Int}{D:Wt κ}(hf:Qbw m D):∀(ws:List κ) (p:Pl κ) (i:Int),(p.map (·.1)).Nodup->WX m (putAll m D p) i ws=putAll m D (BP p i ws)
 |[],p,i,_=>rfl
 |w::ws,p,i,nd=>by
  rw[WX,BP,<-Ou p D (hf w) nd]
  exact KS hf ws (Y1 p w i) (i+1) (Iy nd)
theorem CS:∀(ws:List κ) (p:Pl κ) (i:Int),(p.map (·.1)).Nodup->((BP p i ws).map (·.1)).Nodup
 |[],p,i,h=>h
 |w::ws,p,i,h=>CS ws _ _ (Iy h)
end
end KT
namespace KW
def ws(c:Nat):Bool:=decide (97<=c/\c<=122)||decide (65<=c/\c<=90)||decide (48<=c/\c<=57)
def Py(o:Option Nat):Bool:=match o with
 |some c=>ws c
 |none=>false
def sm(c:Nat):Nat:=if 65<=c/\c<=90 then c+32 else c
abbrev Wd:=List Nat×Nat×Nat
abbrev Sc:=List Wd×List Nat
def Zs(n:Nat)(o:Option Nat)(st:Sc):Sc:=match o with
 |some c=>if ws c=true then (st.1,st.2++[sm c]) else if st.2=[] then st else (st.1++[(st.2,n-st.2.length,n)],[])
 |none=>if st.2=[] then st else (st.1++[(st.2,n-st.2.length,n)],[])
def scan(t:List Nat):Nat->Sc
 |0=>([],[])
 |n+1=>Zs n t[n]? (scan t n)
def DL(t:List Nat):List Wd:=(scan t (t.length+1)).1
theorem AY(t:List Nat):∀n,(scan t n).2.length<=n
 |0=>l9 _
 |n+1=>by
  have ih:=AY t n
  rw[scan]
  unfold Zs
  cases t[n]? with
  |none=>dsimp only;split<;>simp<;>omega
  |some c=>
    dsimp only;split<;>try split
    all_goals simp
    all_goals omega
theorem Ar{n:Nat}{o:Option Nat}{st:Sc}(h:Py o=false):Zs n o st=if st.2=[] then st else (st.1++[(st.2,n-st.2.length,n)],[]):=by
 unfold Zs
 cases o with
 |none=>rfl
 |some c=>
  have h':ws c=false:=h
  dsimp only
  rw[if_neg (by rw[h'];decide)]
theorem Cd{n:Nat}{c:Nat}{st:Sc}(h:ws c=true):Zs n (some c) st=(st.1,st.2++[sm c]):=by
 unfold Zs
 dsimp only
 rw[if_pos h]
theorem KH(t:List Nat)(b:Nat)(h0:(scan t b).2 =[]):∀k,b+k<=t.length->(∀i,b<=i->i<b+k->Py t[i]? =true)->scan t (b+k)=((scan t b).1,((t.drop b).take k).map sm)
 |0,_,_=>by
  rw[Nv,M6,List.map_nil,<-h0]
 |k+1,hl,h=>by
  have ih:=KH t b h0 k (by omega) fun i h1 h2=>h i h1 (by omega)
  have hw:=h (b+k) (by omega) (by omega)
  rw[<-Nat.add_assoc,scan,ih]
  cases e:t[b+k]? with
  |none=>rw[e] at hw;cases hw
  |some c=>
   rw[e] at hw
   rw[Cd hw]
   have e2:(t.drop b)[k]? =some c:=by rw[Bk];exact e
   dsimp only
   rw[q9,e2,n4]
   rfl
theorem Sx(t:List Nat)(b k:Nat)(h0:(scan t b).2 =[])(hl:b+k<=t.length)(h:∀i,b<=i->i<b+k->Py t[i]? =true)(he:Py t[b+k]? =false):
  scan t (b+k+1)=(if k=0 then (scan t b).1 else (scan t b).1 ++[(((t.drop b).take k).map sm,b,b+k)],[]):=by
 rw[scan,KH t b h0 k hl h,Ar he]
 have E2:(((t.drop b).take k).map sm).length=k:=by rw[i5,I9,GG];omega
 dsimp only
 by_cases hk:k=0
 ·subst hk
  rw[M6,List.map_nil,if_pos rfl,if_pos rfl]
 ·rw[if_neg hk,if_neg (by intro e;rw[e] at E2;simp at E2;omega),E2]
  have e:b+k-k=b:=by omega
  rw[e]
theorem HL(t:List Nat)(b:Nat)(h0:(scan t b).2 =[])(h:t.length<=b):∀k,scan t (b+k)=scan t b
 |0=>rfl
 |k+1=>by
  rw[<-Nat.add_assoc,scan,HL t b h0 h k,CJ (by omega),Ar rfl,if_pos h0]
theorem Hi(t:List Nat)(b:Nat)(h0:(scan t b).2 =[])(h:t.length<=b)(h':b<=t.length+1):DL t=(scan t b).1 :=by
 unfold DL
 obtain⟨k,hk⟩:∃k,t.length+1=b+k:=⟨t.length+1-b,by omega⟩
 rw[hk,HL t b h0 h k]
theorem scan_len(t:List Nat):∀n,(scan t n).1.length<=n
 |0=>l9 _
 |n+1=>by
  have ih:=scan_len t n
  rw[scan]
  by_cases hw:Py t[n]? =true
  ·cases e:t[n]? with
   |none=>rw[e] at hw;cases hw
   |some c=>rw[e] at hw;rw[Cd hw];exact QS ih
  ·rw[Ar (by simpa using hw)]
   split
   ·exact QS ih
   ·rw[l0,Aa];omega
end KW
namespace KB
def nb(n:Nat):List Int:=if n<128 then [(n:Int)] else ((n % 128+128:Nat):Int)::nb (n/128)
termination_by n
decreasing_by omega
theorem KZ{n:Nat}(h:n<128):nb n=[(n:Int)]:=by rw[nb,if_pos h]
theorem OE{n:Nat}(h:128<=n):nb n=((n % 128+128:Nat):Int)::nb (n/128):=by rw[nb,if_neg (by omega)]
theorem TX:∀(k n:Nat),n<128^(k+1)->(nb n).length<=k+1
 |0,n,h=>by
  rw[KZ (by simpa using h)]
  exact l9 _
 |k+1,n,h=>by
  by_cases c:n<128
  ·rw[KZ c,Aa];omega
  ·rw[OE (by omega),List.length_cons]
   have:=TX k (n/128) (by
    rw[Nat.div_lt_iff_lt_mul (by decide)]
    rw[Nat.pow_succ] at h
    exact h)
   omega
theorem Jk(n:Nat):∃b r,nb n=b::r/\0<=b/\b<=255/\(b=0->n=0)/\((128<=b/\128<=n/\b=((n % 128+128:Nat):Int)/\r=nb (n/128))\/(b<128/\n<128/\b=(n:Int)/\r=[])):=by
 by_cases c:n<128
 ·refine⟨_,_,KZ c,by omega,by omega,by omega, .inr ⟨by omega,c,rfl,rfl⟩⟩
 ·refine⟨_,_,OE (by omega),by omega,by omega,by omega, .inl ⟨by omega,by omega,rfl,rfl⟩⟩
end KB
namespace K14
open PySem L2 KW KT KB
local macro_rules
 | `(tactic|ac_rfl)=> `(tactic|exact⟨rfl,rfl,rfl,by decide+kernel,rfl,by decide+kernel,by decide+kernel⟩)
theorem QaX:(["sign"]:List Str).Nodup:=by decide+kernel
theorem Qcx:(["make","document"]:List Str).Nodup:=by decide+kernel
theorem Qcw:(["make","places"]:List Str).Nodup:=by decide+kernel
theorem Qcv:(["_law_k"]:List Str).Nodup:=by decide+kernel
theorem Qcu:(["_law_one","_law_places","_law_make"]:List Str).Nodup:=by decide+kernel
theorem Qct:(["_law_make","_law_document_here"]:List Str).Nodup:=by decide+kernel
abbrev nx5:List Str:=["_law_draws_here","_law_letters","_law_number","_law_base"]
abbrev nx6:List Str:=["_law_draws_here","_law_number","_law_many","_law_unlike"]
variable {P:Program} {w:World} {K:n9} {mg:Str->Option Value} {bs0:Heap} {f:Addr} {fd:FuncData}
local macro_rules
 | `(tactic|and_intros)=> `(tactic|try simp only[L2.start,List.map_cons,List.map_nil,List.length_cons,List.length_nil,Nat.reduceAdd,Nat.reduceSub,List.replicate_succ,List.replicate_zero,List.cons_append,List.nil_append])
local macro_rules
 | `(tactic|simpa only[$xs,*])=>do
  let a<-("RD QbZ QbU !QbG !QbF !gN0 !gNS !XX !XW !XV !XU !XT !Ro !Rn !Rm !Rl !Ya !XZ !XY !Rs !Rr !Rq !XS !XR !XQ !Rk !Rj !Ri !Qbz !Qby !Qbx !Yd !Yc !Yb !Yg !Yf !Yh !Qcz !rI_ !Qb3 !rU_ !Qb5 !Qb4 !Qb2 !Qb1 !Yx !Yw !Yv !Yu !UG !YM !RL !Zq !Zr !tOr !Zp !tB IG !RD !tOp !tC !tUn !tCB !HG !Kl QW rI rU rNe rEq DZ !tBM !RJ !Wm !PP BU !Zn !RG List.set_cons_zero List.set_cons_succ List.getElem?_cons_zero List.getElem?_cons_succ Option.some.injEq V.int.injEq V.bl.injEq V.ref.injEq V.str.injEq exists_eq_left' exists_eq_left exists_and_left List.cons.injEq and_true true_and and_assoc exists_const L2.start List.map_cons List.map_nil List.length_cons List.length_nil List.replicate_succ List.replicate_zero List.cons_append List.nil_append List.append_nil Nat.reduceAdd Nat.reduceSub !NU !Km !HF !Mn Wo ipI !Qal !Qaj !MF !MG !Qak Tc !Wn !Qbk !SZ !tSl !RE !IH !WD HH !RI !Wl !Ur !YI !YH !OQ !Ut !UF Gq Qy Qd Qc !Wj !RN !Zo !RF !tIf exists_eq' List.ne_cons_self reduceCtorEq if_true if_false and_false false_and".splitOn " ").tail.toArray.mapM fun s=>if s.startsWith "!" then `(Lean.Parser.Tactic.simpLemma| ↓ $(Lean.mkIdent (s.drop 1).toString.toName):ident) else `(Lean.Parser.Tactic.simpLemma| $(Lean.mkIdent s.toName):ident)
  `(tactic|simp only[$a,*, $xs,*])
def top(i:Nat):Stmt:=PySem.Challenge.pw_findcourt_k14_pieces_as_bytes.main.body.getD i (.Pass ⟨0,0,0,0⟩)
abbrev MA:Stmt:=top 10
abbrev Qab:Stmt:=top 11
abbrev SN:Stmt:=top 12
abbrev Ol:Stmt:=top 14
abbrev SR:Stmt:=top 15
abbrev Qac:Stmt:=top 16
abbrev Mx:Stmt:=top 17
abbrev Op:Stmt:=top 18
abbrev IT:Stmt:=top 6
abbrev Mz:Stmt:=top 20
abbrev MC:Stmt:=top 21
abbrev Qag:Stmt:=top 22
abbrev On:Stmt:=T3 (top 23) 0
abbrev sPM:Stmt:=T3 (top 23) 1
abbrev sPF:Stmt:=T3 (top 23) 2
abbrev sPW:Stmt:=T3 (top 23) 3
abbrev sPP:Stmt:=T3 (top 23) 4
abbrev sPL:Stmt:=T3 (top 23) 5
abbrev ZR:Stmt:=top 24
abbrev sNb:Stmt:=top 31
abbrev sRb:Stmt:=top 32
abbrev sPb:Stmt:=top 33
abbrev sTb:Stmt:=top 34
abbrev sFb:Stmt:=top 35
abbrev ZS:Stmt:=top 36
abbrev Wz:Stmt:=top 13
abbrev sSg:Stmt:=top 37
abbrev sNW:Stmt:=top 39
abbrev ZU:Stmt:=top 40
abbrev sNF:Stmt:=top 41
abbrev sNL:Stmt:=top 42
abbrev ZX:Stmt:=top 43
abbrev Qaf:Stmt:=top 44
abbrev ZV:Stmt:=top 45
abbrev ZQ:Stmt:=top 46
abbrev sRI:Stmt:=T3 (top 38) 0
abbrev SU:Stmt:=T3 (top 38) 1
abbrev ZT:Stmt:=T3 (top 38) 2
abbrev Qae:Stmt:=T3 (top 38) 3
abbrev ZP:Stmt:=T3 (top 38) 4
abbrev sNP:Stmt:=T3 (top 38) 5
abbrev sNT:Stmt:=T3 (top 38) 6
abbrev sLE:Stmt:=T3 (top 38) 7
abbrev IV:Stmt:=top 48
abbrev SO:Stmt:=top 49
abbrev IW:Stmt:=top 50
abbrev MB:Stmt:=top 51
abbrev sLW:Stmt:=top 52
abbrev SQ:Stmt:=top 53
abbrev Qad:Stmt:=top 54
abbrev ZW:Stmt:=top 55
abbrev FS:Stmt:=top 56
abbrev ZO:Stmt:=top 57
abbrev Wy:Stmt:=top 58
abbrev Qaa:Stmt:=top 59
abbrev ZY:Stmt:=top 60
abbrev ZZ:Stmt:=top 61
abbrev SS:Stmt:=top 62
abbrev ZN:Stmt:=top 63
abbrev Hs:Stmt:=top 64
abbrev Ni:Str:=" !\"#$ &'()*+,-./0123456789:;<=>?@ABCDEFGHIJKLMNOPQRSTUVWXYZ[\\]^_`abcdefghijklmnopqrstuvwxyz{|}~"
structure Txt(mg:Str->Option Value):Prop where
 len:mg "len"=none
 range:mg "range"=none
 isinstance:mg "isinstance"=none
 int:mg "int"=none
 bool:mg "bool"=none
 list:mg "list"=none
 dict:mg "dict"=none
 min:mg "min"=none
 sorted:mg "sorted"=none
 all:mg "all"=none
 enumerate:mg "enumerate"=none
 str:mg "str"=none
 tuple:mg "tuple"=none
 sum:mg "sum"=none
 ord:mg "ord"=none
 most:∃t,mg "MOST_NAME_SIGNS"=some (.int 12 t)
 part:∃t,mg "BYTE_PART"=some (.int 128 t)
 last:∃t,mg "LAST_BYTE"=some (.int 255 t)
 first:∃t,mg "FIRST_SIGN"=some (.int 32 t)
 lastS:∃t,mg "LAST_SIGN"=some (.int 126 t)
 noS:∃t,mg "NO_SIGN"=some (.int 37 t)
 signs:∃t,mg "SIGNS"=some (.str Ni t)
def We(x:Wd):DV:= .tup [.str ⟨x.1.toArray⟩, .int x.2.1, .int x.2.2]
def Px(z:Str):Prop:=∀c∈z.cps.toList,c<128
def Bx:Sp:=fun vs H Q _=>∃c:Nat,vs=[.str ⟨#[c]⟩]/\Q (.bl (decide (97<=c/\c<=122))) H
def KA:Sp:=fun vs H Q _=>∃c:Nat,vs=[.str ⟨#[c]⟩]/\Q (.bl (decide (48<=c/\c<=57))) H
def Mr:Sp:=fun vs H Q _=>∃c:Nat,vs=[.str ⟨#[c]⟩]/\Q (.bl (ws c)) H
def So:Sp:=fun vs H Q _=>∃(z:Str) (b:Nat),vs=[.str z, .int b]/\z.length<=1000/\b<=z.length/\
 ∀e:Nat,b<=e->e<=z.length->(∀i,b<=i->i<e->Py z.cps.toList[i]? =true)->Py z.cps.toList[e]? =false->Q (.int e) H
def DP:Sp:=fun vs H Q _=>∃z:Str,vs=[.str z]/\z.length<=1000/\Px z/\
 ∀(r:Addr) (xs:List V) (H':Hp),j9 H H'->H r=none->H' r=some (.lst xs)->i3 (Bs r H') ((DL z.cps.toList).map We) xs->Q (.ref r) H'
def RU{v0:Str}{H:Hp}{Q:VK}{E:XK}:=show DP [.str v0] H Q E=_ by
 simpa only[DP]
 rfl
theorem lt1(a b:Nat):decide ([a]<[b])=decide (a<b):=by
 by_cases h:a<b
 ·rw[R8 h]
  exact R8 (Nq.mpr (.inl h))
 ·rw[BG h]
  refine BG fun q=> ?_
  rcases Nq.mp q with q|⟨_,q⟩
  ·exact h q
  ·cases q
theorem cs1(c:Nat):(⟨#[c]⟩:Str).cps.toList=[c]:=rfl
theorem csa:("a":Str).cps.toList=[97]:=by decide+kernel
theorem csz:("z":Str).cps.toList=[122]:=by decide+kernel
theorem csA:("A":Str).cps.toList=[65]:=by decide+kernel
theorem csZ:("Z":Str).cps.toList=[90]:=by decide+kernel
theorem cs0:("0":Str).cps.toList=[48]:=by decide+kernel
theorem cs9:("9":Str).cps.toList=[57]:=by decide+kernel
theorem P7(z:Str):z.cps.toList.length=z.length:=by simp [Str.length]
theorem Ww:FnScope ["sign"] ["sign"] (i7 MA):=by ac_rfl
theorem TC(F:Fun K "is_small_letter" "is_small_letter" MA f fd):FnOk P w K mg bs0 x8 1 f fd ["sign"] Bx:=by
 refine F.ok Ww (fun vs H Q E h=> ?_) (fun H9 A outer s H vs Q E hr h=> ?_)
 ·obtain⟨c,rfl,_⟩:=h
  rfl
 obtain⟨c,rfl,q⟩:=h
 refine⟨_,(e7 (l6 (Ea U6 U6 A5 (i6 0) A5))),?_⟩
 and_intros
 simpa only[V.str.injEq]
 simp only[csa,csz,cs1,lt1]
 refine O3 (fun h1=> ?_) (fun h1=> ?_)
 ·have e:(!decide (122<c))=decide (97<=c/\c<=122):=by
   rw[Eo];simp at h1⊢;omega
  rw[e];exact q
 ·have e:false=decide (97<=c/\c<=122):=by
   symm;apply BG;simp at h1;omega
  rw[e];exact q
theorem Qb0:FnScope ["sign"] ["sign"] (i7 Qab):=by ac_rfl
theorem QaP(F:Fun K "is_figure" "is_figure" Qab f fd):FnOk P w K mg bs0 x8 1 f fd ["sign"] KA:=by
 refine F.ok Qb0 (fun vs H Q E h=> ?_) (fun H9 A outer s H vs Q E hr h=> ?_)
 ·obtain⟨c,rfl,_⟩:=h
  rfl
 obtain⟨c,rfl,q⟩:=h
 refine⟨_,(e7 (l6 (Ea U6 U6 A5 (i6 0) A5))),?_⟩
 and_intros
 simpa only[V.str.injEq]
 simp only[cs0,cs9,cs1,lt1]
 have fin:∀k,k=decide (48<=c/\c<=57)->Q (.bl k) H:=fun k e=>by rw[e];exact q
 refine O3 (fun h1=>fin _ ?_) (fun h1=>fin _ ?_)
 ·rw[Eo];simp at h1⊢;omega
 ·symm;apply BG;simp at h1;omega
theorem ZH:FnScope ["sign"] ["sign"] (i7 SN):=by ac_rfl
theorem WN{g g':Addr}{gd gd':FuncData}(F:Fun K "is_word_sign" "is_word_sign" SN f fd)(GS:FnOk P w K mg bs0 x8 1 g gd ["sign"] Bx)(bS:Binds K gd ["sign"] [])(kS:PySem.W.keepIn K (.ref g)=true)(mS:mg "is_small_letter"=some (.ref g))
  (GFg:FnOk P w K mg bs0 x8 1 g' gd' ["sign"] KA)(bFg:Binds K gd' ["sign"] [])(kFg:PySem.W.keepIn K (.ref g')=true)(mFg:mg "is_figure"=some (.ref g')):FnOk P w K mg bs0 x8 2 f fd ["sign"] Mr:=by
 refine F.ok ZH (fun vs H Q E h=> ?_) (fun H9 A outer s H vs Q E hr h=> ?_)
 ·obtain⟨c,rfl,_⟩:=h
  rfl
 obtain⟨c,rfl,q⟩:=h
 refine⟨_,(e7 (l6 (Tp (i9 GS hr rfl mS kS bS .nil j3 (c4 (i6 0) c8)) (Tp (Ea U6 U6 A5 (i6 0) A5) (Dp (i9 GFg hr rfl mFg kFg bFg .nil j3 (c4 (i6 0) c8))))))),?_⟩
 and_intros
 simpa only[Bx,KA,V.str.injEq]
 refine⟨c,rfl,?_⟩
 simp only[csA,csZ,cs1,lt1]
 have fin:∀k,k=ws c->Q (.bl k) H:=fun k e=>by rw[e];exact q
 refine O3 (fun h1=> ?_) (fun h1=> ?_)
 ·apply fin;unfold ws;simp at h1;simp [h1]
 ·refine O3 (fun h2=> ?_) (fun h2=> ?_)
  ·refine O3 (fun h3=> ?_) (fun h3=>⟨c,rfl,?_⟩)
   ·apply fin;unfold ws;simp at h1 h2 h3;simp;omega
   ·apply fin;unfold ws;rw[Eo];simp at h1 h2 h3⊢;omega
  ·refine⟨c,rfl,?_⟩
   apply fin;unfold ws;rw[Eo];simp at h1 h2⊢;omega
theorem SI:FnScope ["text","begin","end"] ["text","begin"] (i7 Qac):=by ac_rfl
def QcU(z:Str)(b:Nat)(H:Hp)(σ:St)(L:Hp):Prop:=∃e:Nat,σ=[some (.str z),some (.int b),some (.int e)]/\L=H/\b<=e/\e<=z.length/\∀i,b<=i->i<e->Py z.cps.toList[i]? =true
def muE(z:Str)(σ:St)(_:Hp):Nat:=match σ with
 |[_,_,some (.int e)]=>z.length-e.toNat
 |_=>0
theorem QaQ{g:Addr}{gd:FuncData}(F:Fun K "end_of_word" "end_of_word" Qac f fd)(T:Txt mg)(GS:FnOk P w K mg bs0 x8 2 g gd ["sign"] Mr)(bS:Binds K gd ["sign"] [])(kS:PySem.W.keepIn K (.ref g)=true)(mS:mg "is_word_sign"=some (.ref g)):FnOk P w K mg bs0 x8 3 f fd ["text","begin"] So:=by
 refine F.ok SI (fun vs H Q E h=> ?_) (fun H9 A outer s H vs Q E hr h=> ?_)
 ·obtain⟨z,b,rfl,_⟩:=h
  rfl
 obtain⟨z,b,rfl,hz,hb,q⟩:=h
 refine⟨_,(c6 (i8 (i:=2) SI.nd rfl (Or.inl rfl) (i6 1))
  (c6 (V5 o8 (PW.pt (Td (o4 Dc (i6 2) (j6 O4 rfl T.len A9 (c4 (i6 0) c8)) (q5 _)) (Ot (Q6 (i9 GS hr rfl mS kS bS .nil j3 (c4 (N7 Gg (i6 0) (i6 2) (fun _ _=>rfl)) c8))))))
   (e7 (MH (i:=2) SI.nd rfl (Or.inl rfl) j0 Um)))
  (e7 (l6 (i6 2))))),?_⟩
 and_intros
 simpa only[l8]
 refine NL (QcU z b H) (muE z) ⟨b,rfl,rfl,l9 _,hb,fun i h1 h2=>absurd h2 (by omega)⟩ ?_
 rintro σ L ⟨e,rfl,rfl,he,hel,hw⟩
 simpa only[Mr,V.str.injEq]
 have hsz:z.length<=sizeLine:=T9 hz
 refine⟨hsz,O3 (fun c=>⟨hsz,?_⟩) (fun c=> ?_)⟩
 ·have c':e<z.cps.toList.length:=by rw[P7];have:=A2 c;omega
  refine⟨_,V9 (u9 c'),_,rfl,?_⟩
  refine O3 (fun hw1=> ?_) (fun hw1=> ?_)
  ·refine⟨fun σ' H'=>∃m',m'<muE z [some (V.str z),some (V.int b),some (V.int e)] L/\m'=muE z σ' H'/\QcU z b L σ' H',fun _ _ h=>h,?_⟩
   rw[P7] at c'
   refine⟨_,?_,rfl,e+1,by simp,rfl,by omega,by omega,fun i h1 h2=> ?_⟩
   ·show z.length-((e:Int)+1).toNat<z.length-((e:Int)).toNat
    omega
   ·by_cases hi:i=e
    ·subst hi
     rw[u9 (by rw[P7];exact c')]
     exact hw1
    ·exact hw i h1 (by omega)
  ·refine q e he hel hw ?_
   rw[u9 c']
   simpa [Py] using hw1
 ·have c':e=z.length:=by have:=GU (ER.mpr c);omega
  refine q e he hel hw ?_
  rw[CJ (by rw[P7];omega)]
  rfl
theorem DT:FnScope ["text","found","begin","end"] ["text"] (i7 Mx):=by ac_rfl
def QcA(z:Str)(r:Addr)(H:Hp)(σ:St)(L:Hp):Prop:=∃(b:Nat) (v3:Option V) (xs:List V),σ=[some (.str z),some (.ref r),some (.int b),v3]/\j9 H L/\L r=some (.lst xs)/\b<=z.length+1/\(scan z.cps.toList b).2 =[]/\xs.length<=b/\
 i3 (Bs r L) ((scan z.cps.toList b).1.map We) xs
def muW(z:Str)(σ:St)(_:Hp):Nat:=match σ with
 |[_,_,some (.int b),_]=>z.length+1-b.toNat
 |_=>0
theorem Qcy:PyProof.Rows.lo1=sm:=by funext c;rfl
theorem Tz{g:Addr}{gd:FuncData}(F:Fun K "words_of" "words_of" Mx f fd)(T:Txt mg)(GE:FnOk P w K mg bs0 x8 3 g gd ["text","begin"] So)(bE:Binds K gd ["text","begin"] [])(kE:PySem.W.keepIn K (.ref g)=true)(mE:mg "end_of_word"=some (.ref g)):FnOk P w K mg bs0 x8 4 f fd ["text"] DP:=by
 refine F.ok DT (fun vs H Q E h=> ?_) (fun H9 A outer s H vs Q E hr h=> ?_)
 ·obtain⟨z,rfl,_⟩:=h
  rfl
 obtain⟨z,rfl,hz,hA,q⟩:=h
 refine⟨_,(c6 (i8 (i:=1) DT.nd rfl (Or.inl rfl) (B4 c8))
  (c6 (i8 (i:=2) DT.nd rfl (Or.inl rfl) j0)
  (c6 (V5 o8 (o4 Dc (i6 2) (j6 O4 rfl T.len A9 (c4 (i6 0) c8)) (q5 _))
   (c6 (i8 (i:=3) DT.nd rfl (Or.inl rfl) (i9 GE hr rfl mE kE bE .nil j3 (c4 (i6 0) (c4 (i6 2) c8))))
  (c6 (C4 (o4 HW (i6 3) (i6 2) (q5 _)) (e7 (q0 (Ca K B6 N0 M8 y8 (i6 1) (c4 (P8 (c4 (XB K EQ PySem.F.slot_str_lower PySem.F.type_str_lower TY (Cq Ss (i6 0) (BA (i6 2)) (BA (i6 3)))) (c4 (i6 2) (c4 (i6 3) c8)))) c8)))) o7)
  (e7 (i8 (i:=2) DT.nd rfl (Or.inl rfl) (k8 K6 (i6 3) j0))))))
  (e7 (l6 (i6 1)))))),?_⟩
 have hsz:z.length<=sizeLine:=T9 hz
 and_intros
 simpa only[l8]
 refine⟨by decide,fun r hn=> ?_⟩
 refine NL (QcA z r H) (muW z) ⟨0,none,[],rfl,d0 hn _,c5,x5 _,rfl,l9 _,i3.nil⟩ ?_
 rintro σ L ⟨b,v3,xs,rfl,sL,hR,hb,h0,De,hD⟩
 simpa only[So]
 refine⟨hsz,O3 (fun c=> ?_) (fun c=> ?_)⟩
 ·have c':b<z.length:=by have:=A2 c;omega
  refine⟨fun σ' H'=>∃m',m'<muW z [some (V.str z),some (V.ref r),some (V.int b),v3] L/\m'=muW z σ' H'/\QcA z r H σ' H',fun _ _ h=>h,?_⟩
  refine⟨b,rfl,hz,by omega,fun e he hel hw hend=> ?_⟩
  obtain⟨k,rfl⟩:∃k,e=b+k:=⟨e-b,by omega⟩
  have hse:=Sx z.cps.toList b k h0 (by rw[P7];exact hel) hw hend
  have mu:muW z [some (V.str z),some (V.ref r),some (V.int (((b+k:Nat):Int)+1)),some (V.int ((b+k:Nat):Int))] L<muW z [some (V.str z),some (V.ref r),some (V.int b),v3] L:=by
   show z.length+1-(((b+k:Nat):Int)+1).toNat<z.length+1-((b:Int)).toNat
   omega
  have ei:(((b+k:Nat):Int)+1)=((b+k+1:Nat):Int):=by omega
  refine O3 (fun d=> ?_) (fun d=> ?_)
  ·have hk:k≠0:=by have:=A2 d;omega
   have ec:Z8 z.cps.toList (some ((b:Nat):Int)) (some ((b+k:Nat):Int))=(z.cps.toList.drop b).take k:=by
    rw[LA _ (by omega)]
    congr 1
    omega
   rw[ec]
   refine⟨.inl ⟨rfl,_,o6.of hR⟩,hsz,rfl,?_,?_,by decide,fun p hp=>⟨xs,k7 hR hp,P6 (by omega),_,mu,rfl,b+k+1,some (.int ((b+k:Nat):Int)),xs++[.ref p],by rw[ei],?_,c5,by omega,?_,?_,?_⟩⟩
   ·show ((z.cps.toList.drop b).take k).toArray.size<=1000000
    rw[D8,I9,GG,P7]
    omega
   ·intro c hc
    exact hA c (VF (VD hc))
   ·exact(sL.trans (d0 hp _)).newer hn _
   ·rw[hse]
   ·rw[l0,Aa]
    omega
   ·have npr:p≠r:=fun z=>by subst z;rw[hR] at hp;cases hp
    rw[Uz,hse]
    dsimp only
    rw[if_neg hk,n4]
    refine(i3.same (Ih (d0 hp _)) _ _ hD).app (i3.one ?_)
    show n8 _ (We _) _
    rw[We,n8]
    refine⟨p,_,rfl,by rw[CW npr];exact c5,?_⟩
    have el:(⟨Array.map PyProof.Rows.lo1 ((z.cps.toList.drop b).take k).toArray⟩:Str)=⟨(((z.cps.toList.drop b).take k).map sm).toArray⟩:=by
     rw[Qcy,List.map_toArray]
    rw[el]
    rw[i3]
    exact⟨_,_,rfl,by rw[n8],i3.ints [_,_]⟩
  ·have hk:k=0:=by have:=GU (ER.mpr d);omega
   subst hk
   refine⟨_,mu,rfl,b+0+1,some (.int ((b+0:Nat):Int)),xs,by rw[ei],sL,hR,by omega,?_,by omega,?_⟩
   ·rw[hse]
   ·rw[hse]
    exact hD
 ·have c':z.length<=b:=by have:=GU (ER.mpr c);omega
  rw[<-Hi z.cps.toList b h0 (by rw[P7];exact c') (by rw[P7];exact hb)] at hD
  exact q r xs L sL hn hR hD
abbrev BN:=Str×Str
def Wf(x:BN):DV:= .tup [.str x.1, .str x.2]
def EE(c:Nat):Bool:=decide (97<=c/\c<=122)
def Az(z:Str):Bool:=decide (1<=z.length/\z.length<=12)&&z.cps.toList.all EE
def Fi(prev f:Str):Bool:= !Az f|| !decide (prev.cps.toList<f.cps.toList)
def dw(prev:Str)(j:Nat):List BN->Option Nat
 |[]=>none
 |x::r=>if Fi prev x.1=true then some j else dw x.1 (j+1) r
def Ch:Sp:=fun vs H Q _=>∃z:Str,vs=[.str z]/\z.length<=1000/\∀H',j9 H H'->Q (.bl (Az z)) H'
def IP{v0:Str}{H:Hp}{Q:VK}{E:XK}:=show Ch [.str v0] H Q E=_ by
 simpa only[Ch]
 rfl
def X1:TS:=fun _ _ _=>False
theorem Q8{X:Cx}{st:Stmt}:PS X st X1:=fun _ _ _ _ _ _ h=>h.elim
def Eu:Sp:=fun vs H Q _=>∃(a:Addr) (d:List BN) (xs:List V),vs=[.ref a]/\H a=some (.lst xs)/\i3 H (d.map Wf) xs/\d.length<=1000/\(∀x∈d,x.1.length<=1000)/\dw "" 0 d=none/\∀H',j9 H H'->Q .non H'
def Oc{v0:Addr}{H:Hp}{Q:VK}{E:XK}:=show Eu [.ref v0] H Q E=_ by
 simpa only[Eu]
 rfl
theorem Ng{H:Hp}{x:BN}{v:V}(h:n8 H (Wf x) v):∃a,v= .ref a/\H a=some (.tup [.str x.1, .str x.2]):=by
 rw[Wf,n8] at h
 obtain⟨a,us,rfl,ha,AS⟩:=h
 refine⟨a,rfl,?_⟩
 rw[ha]
 rw[i3] at AS
 obtain⟨y,ys,rfl,hy,AS⟩:=AS
 rw[i3] at AS
 obtain⟨y2,ys2,rfl,hy2,AS⟩:=AS
 rw[i3] at AS
 rw[n8] at hy
 rw[n8] at hy2
 rw[hy,hy2,AS]
theorem ZJ:FnScope ["text"] ["text"] (i7 Ol):=by ac_rfl
def Qdl(z:Str)(H:Hp)(i:Nat)(ys:List V)(σ:St)(L:Hp):Prop:=∃v0:Option V,ys=((z.cps.toList.take i).map EE).map V.bl/\L=H/\σ=[v0]
theorem WQ{g:Addr}{gd:FuncData}(F:Fun K "is_name" "is_name" Ol f fd)(T:Txt mg)(GS:FnOk P w K mg bs0 x8 1 g gd ["sign"] Bx)(bS:Binds K gd ["sign"] [])(kS:PySem.W.keepIn K (.ref g)=true)(mS:mg "is_small_letter"=some (.ref g)):FnOk P w K mg bs0 x8 2 f fd ["text"] Ch:=by
 refine F.ok ZJ (fun vs H Q E h=> ?_) (fun H9 A outer s H vs Q E hr h=> ?_)
 ·obtain⟨z,rfl,_⟩:=h
  rfl
 obtain⟨z,rfl,hz,q⟩:=h
 obtain⟨tM,hM⟩:=T.most
 refine⟨_,(e7 (l6 (EA (Ea Tv Tv j0 (j6 O4 rfl T.len A9 (c4 (i6 0) c8)) (U5 rfl hM)) (Dp (j6 (LF K rfl) rfl T.all (by decide+kernel) (c4 (X7 (N:=["sign"]) (pick:=[none]) (NX:=["text"]) (sX:=i7 Ol) (by decide+kernel) rfl rfl rfl (Jc (i6 0))
    (fun _ _ _ _=>(j5 (i:=0) QaX rfl (Or.inl rfl))) (fun _ _ _ _=>R0) (fun _ _ _ _=>(i9 GS hr rfl mS kS bS .nil j3 (c4 (i6 0) c8)))) c8)))))),?_⟩
 and_intros
 simpa only[↓Uq]
 have hsz:z.length<=sizeLine:=T9 hz
 have bad:¬(1<=z.length/\z.length<=12)->Q (.bl false) H:=fun n=>by
  have e:Az z=false:=by unfold Az;rw[BG n,Bool.false_and]
  have:=q H (j9.refl _)
  rw[e] at this
  exact this
 refine⟨hsz,O3 (fun c1=>O3 (fun c2=> ?_) fun c2=>bad ?_) fun c1=>bad ?_⟩
 ·have d1:=A2 c1
  have d2:=A2 c2
  refine EM (Qdl z H) ⟨none,rfl,rfl,rfl⟩ ?_ ?_ ?_
  ·rintro i ys σ L hi ⟨v0,rfl,rfl,rfl⟩
   rw[i5,i5,I9]
   exact T9 (by omega)
  ·rintro i c ys σ L hc ⟨v0,rfl,rfl,rfl⟩
   simpa only[Bx]
   refine⟨c,rfl,_,?_,rfl,rfl⟩
   rw[q9,hc,n4,n4]
   rfl
  ·rintro ys σ L ⟨v0,rfl,rfl,rfl⟩ p hp
   rw[<-P7,B7]
   refine⟨p,rfl,_,o6.of c5,?_⟩
   have e:Az z=((z.cps.toList.map EE).all id):=by
    unfold Az
    rw[R8 (by omega),Bool.true_and,List.all_map]
    rfl
   rw[<-e]
   exact q _ (d0 hp _)
 ·have:=GU (ER.mpr c2);omega
 ·have:=GU (ER.mpr c1);omega
theorem Ew:FnScope ["document","ahead","place","pair","field"] ["document"] (i7 SR):=by ac_rfl
def Qdm(a:Addr)(d:List BN)(H:Hp)(i:Nat)(σ:St)(L:Hp):Prop:=∃(prev:Str) (v2 v3 v4:Option V),σ=[some (.ref a),some (.str prev),v2,v3,v4]/\j9 H L/\dw "" 0 d=dw prev i (d.drop i)
theorem WS{gn:Addr}{dn:FuncData}(F:Fun K "look_at_document" "look_at_document" SR f fd)(T:Txt mg)(GN:FnOk P w K mg bs0 x8 2 gn dn ["text"] Ch)(bN:Binds K dn ["text"] [])(kN:PySem.W.keepIn K (.ref gn)=true)(mN:mg "is_name"=some (.ref gn)):FnOk P w K mg bs0 x8 3 f fd ["document"] Eu:=by
 refine F.ok Ew (fun vs H Q E h=> ?_) (fun H9 A outer s H vs Q E hr h=> ?_)
 ·obtain⟨a,d,xs,rfl,_⟩:=h
  rfl
 obtain⟨a,d,xs,rfl,ha,hd,hl,Eh,hnn,q⟩:=h
 refine⟨_,(c6 (i8 (i:=1) Ew.nd rfl (Or.inl rfl) A5)
  (e7 (x9 o8 rfl (Jd rfl T.enumerate (c4 (i6 0) c8)) (LW K (n:=2) rfl (o9 (j5 (i:=2) Ew.nd rfl (Or.inl rfl)) (o9 (j5 (i:=3) Ew.nd rfl (Or.inl rfl)) P2)))
   (c6 (i8 (i:=4) Ew.nd rfl (Or.inl rfl) (N7 (Xl K) (i6 3) j0 (fun _ _=>rfl)))
  (c6 (C4 (PW.pt (Bp (Q7 (Q6 (i9 GN hr rfl mN kN bN .nil j3 (c4 (i6 4) c8)))) (Aw (o4 U6 (i6 4) (i6 1) (q5 _))))) (e7 Q8) o7)
  (e7 (i8 (i:=1) Ew.nd rfl (Or.inl rfl) (i6 4)))))))),?_⟩
 and_intros
 simpa only[l8]
 refine⟨⟨_,o6.of ha⟩,EI xs (Qdm a d H) ⟨"",none,none,none,rfl,j9.refl _,by rw[List.drop_zero]⟩ ?_ ?_ ?_⟩
 ·rintro i σ L hi ⟨prev,v2,v3,v4,rfl,sL,hw⟩
  exact o6.of (sL _ _ ha)
 ·rintro i y T σ L hy ⟨prev,v2,v3,v4,rfl,sL,hw⟩ hT
  obtain⟨dv,h1,h2⟩:=hd.get hy
  rw[u8] at h1
  obtain⟨x,hx,rfl⟩:=D3.mp h1
  obtain⟨b,rfl,hb⟩:=Ng h2
  have hb':(upd L T (.tup [.int i, .ref b])) b=some (.tup [.str x.1, .str x.2]):=k7 (sL _ _ hb) hT
  have sT:j9 H (upd L T (.tup [.int i, .ref b])):=sL.trans (d0 hT _)
  have Ux:i<d.length:=(D9.mp hx).1
  have hdr:d.drop i=x::d.drop (i+1):=by
   rw[AE Ux]
   congr 1
   exact(D9.mp hx).2
  have Lm:x∈d:=E7 hx
  simpa only[↓IP,Ch,↓X1]
  refine⟨_,AG.of c5,rfl,?_⟩
  simpa only[↓IP,Ch,↓X1]
  refine⟨_,AG.of hb',_,rfl,_,rfl,Eh x Lm,fun H2 s2=> ?_⟩
  have s02:j9 H H2:=sT.trans s2
  have wr:Fi prev x.1≠true:=fun hbad=>by
   rw[hdr,dw,if_pos hbad,hnn] at hw
   cases hw
  refine O3 (fun c1=>wr ?_) fun c1=>⟨_,rfl,O3 (fun c2=>wr ?_) fun c2=>⟨x.1,_,_,_,rfl,s02,?_⟩⟩
  ·unfold Fi;rw[c1,Bool.true_or]
  ·unfold Fi;rw[c2,Bool.or_true]
  ·rw[hw,hdr,dw,if_neg wr]
 ·rintro σ L ⟨prev,v2,v3,v4,rfl,sL,hw⟩
  exact q L sL
theorem Wv:FnScope ["value"] ["value"] (i7 Mz):=by ac_rfl
def CM:Sp:=fun vs H Q _=>∃i:Int,vs=[.int i]/\Q (.bl true) H
def Kp{v0:Int}{H:Hp}{Q:VK}{E:XK}:=show CM [.int v0] H Q E=_ by
 simpa only[CM]
 rfl
theorem TB(F:Fun K "is_whole_number" "is_whole_number" Mz f fd)(T:Txt mg):FnOk P w K mg bs0 x8 1 f fd ["value"] CM:=by
 refine F.ok Wv (fun vs H Q E h=> ?_) (fun H9 A outer s H vs Q E hr h=> ?_)
 ·obtain⟨i,rfl,_⟩:=h
  rfl
 obtain⟨i,rfl,q⟩:=h
 refine⟨_,(e7 (l6 (EA (j6 (V7 K) rfl T.isinstance (by decide+kernel) (c4 (i6 0) (c4 (Z2 (v:= .ty "int") rfl T.int (by decide+kernel) rfl) c8))) (Dp (Tq (j6 (V7 K) rfl T.isinstance (by decide+kernel) (c4 (i6 0) (c4 (Z2 (v:= .ty "bool") rfl T.bool (by decide+kernel) rfl) c8)))))))),?_⟩
 and_intros
 simpa only[V.ty.injEq]
 exact⟨_, .int i,true,rfl,MV ⟨_, .int i,false,rfl,q⟩⟩
abbrev Mk:=Int×List BN
def QD(x:Mk):DV:= .tup [.int x.1, .lst (x.2.map Wf)]
def mw(ahead:Int):List Mk->Prop
 |[]=>True
 |x::r=>ahead<x.1/\dw "" 0 x.2=none/\mw x.1 r
theorem OF:∀{ms:List Mk} {p:Int} {i:Nat} {x:Mk},mw p ms->ms[i]? =some x->p<x.1/\dw "" 0 x.2=none/\mw x.1 (ms.drop (i+1))
 |y::r,p,0,x,h,e=>by simp at e;subst e;simpa [mw] using h
 |y::r,p,i+1,x,h,e=>by
  obtain⟨h1,h2,h3⟩:=OF (i:=i) h.2.2 (by simpa using e)
  exact⟨by have:=h.1;omega,h2,by simpa using h3⟩
 |[],p,i,x,h,e=>by simp at e
def DQ:Sp:=fun vs H Q _=>∃(a:Addr) (ms:List Mk) (xs:List V),vs=[.ref a]/\H a=some (.lst xs)/\i3 H (ms.map QD) xs/\ms.length<=1000/\(∀m∈ms,m.2.length<=1000/\∀x∈m.2,x.1.length<=1000)/\mw (-1) ms/\∀H',j9 H H'->Q .non H'
def Si{v0:Addr}{H:Hp}{Q:VK}{E:XK}:=show DQ [.ref v0] H Q E=_ by
 simpa only[DQ]
 rfl
theorem Gv{H:Hp}{x:Mk}{v:V}(h:n8 H (QD x) v):∃a b xs,v= .ref a/\H a=some (.tup [.int x.1, .ref b])/\H b=some (.lst xs)/\i3 H (x.2.map Wf) xs:=by
 rw[QD,n8] at h
 obtain⟨a,us,rfl,ha,AS⟩:=h
 rw[i3] at AS
 obtain⟨y,ys,rfl,hy,AS⟩:=AS
 rw[i3] at AS
 obtain⟨y2,ys2,rfl,hy2,AS⟩:=AS
 rw[i3] at AS
 rw[n8] at hy
 rw[n8] at hy2
 obtain⟨b,xs,rfl,hb,Hv⟩:=hy2
 exact⟨a,b,xs,rfl,by rw[ha,hy,AS],hb,Hv⟩
theorem CN:FnScope ["makes","ahead","place","pair","make"] ["makes"] (i7 MC):=by ac_rfl
def QcL(a:Addr)(ms:List Mk)(H:Hp)(i:Nat)(σ:St)(L:Hp):Prop:=∃(prev:Int) (v2 v3 v4:Option V),σ=[some (.ref a),some (.int prev),v2,v3,v4]/\j9 H L/\mw prev (ms.drop i)
theorem TH{gh gd:Addr}{dh dd:FuncData}(F:Fun K "look_at_makes" "look_at_makes" MC f fd)(T:Txt mg)(GH:FnOk P w K mg bs0 x8 1 gh dh ["value"] CM)(bH:Binds K dh ["value"] [])(kH:PySem.W.keepIn K (.ref gh)=true)(mH:mg "is_whole_number"=some (.ref gh))
  (GLk:FnOk P w K mg bs0 x8 3 gd dd ["document"] Eu)(bLk:Binds K dd ["document"] [])(kLk:PySem.W.keepIn K (.ref gd)=true)(mLk:mg "look_at_document"=some (.ref gd)):FnOk P w K mg bs0 x8 4 f fd ["makes"] DQ:=by
 refine F.ok CN (fun vs H Q E h=> ?_) (fun H9 A outer s H vs Q E hr h=> ?_)
 ·obtain⟨a,d,xs,rfl,_⟩:=h
  rfl
 obtain⟨a,ms,xs,rfl,ha,hd,hl,Eh,LZ,q⟩:=h
 have hr1:Room 1 _:=hr.mono (by decide)
 refine⟨_,(c6 (i8 (i:=1) CN.nd rfl (Or.inl rfl) (HU Er j0))
  (e7 (x9 o8 rfl (Jd rfl T.enumerate (c4 (i6 0) c8)) (LW K (n:=2) rfl (o9 (j5 (i:=2) CN.nd rfl (Or.inl rfl)) (o9 (j5 (i:=3) CN.nd rfl (Or.inl rfl)) P2)))
   (c6 (i8 (i:=4) CN.nd rfl (Or.inl rfl) (N7 (Xl K) (i6 3) j0 (fun _ _=>rfl)))
  (c6 (C4 (PW.pt (Bp (Q7 (Q6 (i9 GH hr1 rfl mH kH bH .nil j3 (c4 (i6 4) c8)))) (Aw (o4 Tv (i6 4) (i6 1) (q5 _))))) (e7 Q8) o7)
  (c6 (q0 (i9 GLk hr rfl mLk kLk bLk .nil j3 (c4 (N7 (Xl K) (i6 3) j0 (fun _ _=>rfl)) c8)))
  (e7 (i8 (i:=1) CN.nd rfl (Or.inl rfl) (i6 4))))))))),?_⟩
 and_intros
 simpa only[l8]
 refine⟨⟨_,o6.of ha⟩,EI xs (QcL a ms H) ⟨-1,none,none,none,rfl,j9.refl _,by rw[List.drop_zero];exact LZ⟩ ?_ ?_ ?_⟩
 ·rintro i σ L hi ⟨prev,v2,v3,v4,rfl,sL,hw⟩
  exact o6.of (sL _ _ ha)
 ·rintro i y T σ L hy ⟨prev,v2,v3,v4,rfl,sL,hw⟩ hT
  obtain⟨dv,h1,h2⟩:=hd.get hy
  rw[u8] at h1
  obtain⟨x,hx,rfl⟩:=D3.mp h1
  obtain⟨b,c,zs,rfl,hb,hc,hz⟩:=Gv h2
  have sT:j9 H (upd L T (.tup [.int i, .ref b])):=sL.trans (d0 hT _)
  have hb':=sT _ _ hb
  have Ux:i<ms.length:=(D9.mp hx).1
  have hdr:ms.drop i=x::ms.drop (i+1):=by
   rw[AE Ux]
   congr 1
   exact(D9.mp hx).2
  have Lm:x∈ms:=E7 hx
  rw[hdr] at hw
  simpa only[↓Kp,CM,↓Oc,Eu,↓X1]
  refine⟨_,AG.of c5,rfl,?_⟩
  simpa only[↓Kp,CM,↓Oc,Eu,↓X1]
  refine⟨_,AG.of hb',_,rfl,_,rfl,Bb ⟨_,rfl,O3 (fun c1=> ?_) fun c1=> ?_⟩⟩
  ·have c1':x.1<=prev:=A2 c1
   have:=hw.1
   omega
  ·exact⟨_,AG.of hb',_,rfl,c,rfl,x.2,zs,sT _ _ hc,i3.same sT _ _ hz,(Eh x Lm).1,(Eh x Lm).2,hw.2.1,fun H' s'=>⟨x.1,_,_,_,rfl,sT.trans s',hw.2.2⟩⟩
 ·rintro σ L ⟨prev,v2,v3,v4,rfl,sL,hw⟩
  exact q L sL
theorem UM{H:Hp}{wd:Wd}{x:V}(h:n8 H (We wd) x):∃a,x= .ref a/\H a=some (.tup [.str ⟨wd.1.toArray⟩, .int wd.2.1, .int wd.2.2]):=by
 rw[We,n8] at h
 obtain⟨a',us,rfl,ha',AS⟩:=h
 refine⟨a',rfl,?_⟩
 rw[ha']
 rw[i3] at AS
 obtain⟨y,ys',rfl,hy,AS⟩:=AS
 rw[i3] at AS
 obtain⟨y2,ys2,rfl,hy2,AS⟩:=AS
 rw[i3] at AS
 obtain⟨y3,ys3,rfl,hy3,AS⟩:=AS
 rw[i3] at AS
 rw[n8] at hy
 rw[n8] at hy2
 rw[n8] at hy3
 rw[hy,hy2,hy3,AS]
def A7(z:Str):List Str:=(DL z.cps.toList).map fun x=>⟨x.1.toArray⟩
theorem Au{z:Str}(h:z.length<=900):(A7 z).length<=1000:=by
 have:=scan_len z.cps.toList (z.cps.toList.length+1)
 have e:z.cps.toList.length=z.length:=P7 z
 unfold A7 DL
 rw[i5]
 omega
def Cj:Sp:=fun vs H Q _=>∃z:Str,vs=[.str z]/\z.length<=900/\Px z/\∀(r:Addr) (H':Hp),j9 H H'->H r=none->H' r=some (.lst ((A7 z).map V.str))->Q (.ref r) H'
def Fm{v0:Str}{H:Hp}{Q:VK}{E:XK}:=show Cj [.str v0] H Q E=_ by
 simpa only[Cj]
 rfl
theorem ZM:FnScope ["text"] ["text"] (i7 Op):=by ac_rfl
def QcX(z:Str)(L0:Hp)(i:Nat)(ys:List V)(σ:St)(L:Hp):Prop:=∃v0:Option V,σ=[v0]/\L=L0/\ys=((A7 z).take i).map V.str
theorem WV{g:Addr}{gd:FuncData}(F:Fun K "bare_words" "bare_words" Op f fd)(T:Txt mg)(GW:FnOk P w K mg bs0 x8 4 g gd ["text"] DP)(bW:Binds K gd ["text"] [])(kW:PySem.W.keepIn K (.ref g)=true)(mW:mg "words_of"=some (.ref g)):FnOk P w K mg bs0 x8 5 f fd ["text"] Cj:=by
 refine F.ok ZM (fun vs H Q E h=> ?_) (fun H9 A outer s H vs Q E hr h=> ?_)
 ·obtain⟨z,rfl,_⟩:=h
  rfl
 obtain⟨z,rfl,hz,hA,q⟩:=h
 refine⟨_,(e7 (l6 (X7 (N:=["entry"]) (pick:=[none]) (NX:=["text"]) (sX:=i7 Op) (by decide+kernel) rfl rfl rfl (r9 K (i9 GW hr rfl mW kW bW .nil j3 (c4 (i6 0) c8)))
    (fun _ _ _ _=>(j5 (i:=0) (by decide+kernel:(["entry"]:List Str).Nodup) rfl (Or.inl rfl))) (fun _ _ _ _=>R0) (fun _ _ _ _=>(N7 (Xl K) (i6 0) j0 (fun _ _=>rfl)))))),?_⟩
 and_intros
 simpa only[↓RU,DP]
 refine⟨by omega,hA,fun r xs H1 s1 hr1 e1 hD=>⟨⟨xs,o6.of e1⟩,?_⟩⟩
 have hDs:=i3.same (At r H1) _ _ hD
 have LY:=Au hz
 have hwe:(A7 z).length=(DL z.cps.toList).length:=i5 _
 have De:xs.length=(DL z.cps.toList).length:=by have:=hD.length;rwa [i5] at this
 refine Y9 xs (QcX z H1) ⟨none,rfl,rfl,rfl⟩ ?_ ?_ ?_
 ·rintro i ys σ L hi ⟨v0,rfl,rfl,rfl⟩
  exact⟨o6.of e1,T9 (by rw[i5,I9];omega)⟩
 ·rintro i y ys σ L hy ⟨v0,rfl,rfl,rfl⟩
  obtain⟨dv,h1,h2⟩:=hDs.get hy
  rw[u8] at h1
  obtain⟨wd,YJ,rfl⟩:=D3.mp h1
  obtain⟨b,rfl,hb⟩:=UM h2
  simpa only[l8]
  refine⟨_,AG.of hb,_,rfl,_,rfl,rfl,?_⟩
  have e3:(A7 z)[i]? =some ⟨wd.1.toArray⟩:=by unfold A7;rw[u8,YJ];rfl
  rw[q9,e3,n4]
  rfl
 ·rintro ys σ L ⟨v0,rfl,rfl,rfl⟩ p hp
  refine q p _ (s1.trans (d0 hp _)) (s1.free hp) ?_
  rw[c5,De,<-hwe,B7]
theorem Ry{kvs:List (D7×V)}{k:D7}{v:V}(h:C7 kvs k=some v):∃p∈kvs,p.2=v:=by
 unfold C7 at h
 cases e:kvs.find? (fun kv=>decide (kv.1=k)) with
 |none=>rw[e] at h;cases h
 |some p=>rw[e] at h;exact⟨p,List.mem_of_find?_eq_some e,Ab h⟩
def X0(G H:Hp):List (D7×V)->Pl Str->Prop
 |[],[]=>True
 |kv::r,x::p=>(∃l,kv=(.inr x.1, .ref l)/\G l=none/\H l=some (.lst (x.2.map V.int))/\∀y∈r,y.2≠ .ref l)/\X0 G H r p
 |_,_=>False
theorem X0.keys{G H:Hp}:∀{kvs:List (D7×V)} {p:Pl Str},X0 G H kvs p->kvs.map (·.1)=(p.map (·.1)).map Sum.inr
 |[],[],_=>rfl
 |kv::r,x::p,⟨⟨l,e,_⟩,h⟩=>by rw[List.map_cons,List.map_cons,List.map_cons,X0.keys h,e]
 |[],_::_,h=>h.elim
 |_::_,[],h=>h.elim
theorem X0.congr{G H H':Hp}:∀{kvs:List (D7×V)} {p:Pl Str},X0 G H kvs p->(∀y∈kvs,∀l u,y.2= .ref l->H l=some u->H' l=some u)->X0 G H' kvs p
 |[],[],_,_=>trivial
 |kv::r,x::p,⟨⟨l,e,g,hl,hn⟩,h⟩,hk=>⟨⟨l,e,g,hk kv C0 l _ (by rw[e]) hl,hn⟩,X0.congr h fun y hy=>hk y (D5 _ hy)⟩
 |[],_::_,h,_=>h.elim
 |_::_,[],h,_=>h.elim
theorem X0.same{G H H':Hp}{kvs:List (D7×V)}{p:Pl Str}(h:X0 G H kvs p)(s:j9 H H'):X0 G H' kvs p:=h.congr fun _ _ l u _ hl=>s l u hl
theorem X0.get{G H:Hp}{w:Str}:∀{kvs:List (D7×V)} {p:Pl Str} {v:V},X0 G H kvs p->C7 kvs (.inr w)=some v->∃l ps,v= .ref l/\get p w=some ps/\G l=none/\H l=some (.lst (ps.map V.int))
 |[],[],v,_,hv=>by cases hv
 |kv::r,x::p,v,⟨⟨l,e,g,hl,hn⟩,h⟩,hv=>by
  subst e
  by_cases hx:x.1=w
  ·rw[hx,E5 rfl] at hv
   cases hv
   exact⟨l,x.2,rfl,by rw[KT.get,if_pos hx],g,hl⟩
  ·rw[E6 (fun y=>hx (QQ y))] at hv
   obtain⟨l',ps,h1,h2,h3,h4⟩:=X0.get h hv
   exact⟨l',ps,h1,by rw[KT.get,if_neg hx];exact h2,h3,h4⟩
 |[],_::_,_,h,_=>h.elim
 |_::_,[],_,h,_=>h.elim
theorem X0.grow{G H:Hp}{w:Str}{i:Int}{l:Addr}{ps:List Int}:∀{kvs:List (D7×V)} {p:Pl Str},X0 G H kvs p->C7 kvs (.inr w)=some (.ref l)->H l=some (.lst (ps.map V.int))->X0 G (upd H l (.lst (ps.map V.int++[.int i]))) kvs (Y1 p w i)
 |[],[],_,hv,_=>by cases hv
 |kv::r,x::p,⟨⟨l',e,g,hl,hn⟩,h⟩,hv,hp=>by
  subst e
  by_cases hx:x.1=w
  ·rw[hx,E5 rfl] at hv
   cases hv
   rw[hl] at hp
   have ep:x.2.map V.int=ps.map V.int:=HO.lst.inj (Ab hp)
   have e2:Y1 (x::p) w i=(w,x.2++[i])::p:=by unfold Y1;rw[KT.mod,if_pos hx];rfl
   rw[e2]
   refine⟨⟨l,by rw[hx],g,by rw[c5,n4,ep];rfl,hn⟩,h.congr fun y hy m u em hu=> ?_⟩
   rw[i4 (fun z=>hn y hy (by rw[em,z]))]
   exact hu
  ·rw[E6 (fun y=>hx (QQ y))] at hv
   have e2:Y1 (x::p) w i=x::Y1 p w i:=by unfold Y1;rw[KT.mod,if_neg hx]
   rw[e2]
   obtain⟨y,hy,ey⟩:=Ry hv
   refine⟨⟨l',rfl,g,?_,hn⟩,X0.grow h hv hp⟩
   rw[i4 (fun z=>hn y hy (by rw[ey,z]))]
   exact hl
 |[],_::_,h,_,_=>h.elim
 |_::_,[],h,_,_=>h.elim
theorem X0.add{G H:Hp}{w:Str}{i:Int}{l:Addr}(hl:H l=some (.lst [.int i]))(hg:G l=none):∀{kvs:List (D7×V)} {p:Pl Str},X0 G H kvs p->C7 kvs (.inr w)=none->(∀y∈kvs,y.2≠ .ref l)->X0 G H (kvs++[(.inr w, .ref l)]) (Y1 p w i)
 |[],[],_,_,_=>⟨⟨l,rfl,hg,hl,fun y hy=>by cases hy⟩,trivial⟩
 |kv::r,x::p,⟨⟨l',e,g,hl',hn⟩,h⟩,hv,hk=>by
  subst e
  by_cases hx:x.1=w
  ·rw[hx,E5 rfl] at hv
   cases hv
  ·rw[E6 (fun y=>hx (QQ y))] at hv
   have e2:Y1 (x::p) w i=x::Y1 p w i:=by unfold Y1;rw[KT.mod,if_neg hx]
   rw[e2]
   refine⟨⟨l',rfl,g,hl',fun y hy=> ?_⟩,X0.add hl hg h hv fun y hy=>hk y (D5 _ hy)⟩
   rcases U3.mp hy with h1|h1
   ·exact hn y h1
   ·rw[D4.mp h1]
    exact fun z=>hk _ C0 z.symm
 |[],_::_,h,_,_=>h.elim
 |_::_,[],h,_,_=>h.elim
theorem KO{κ:Type}[DecidableEq κ]:∀(ws:List κ) (p:Pl κ) (i:Int) (w:κ),BP p i (ws++[w])=Y1 (BP p i ws) w (i+ws.length)
 |[],p,i,w=>by simp [BP]
 |x::ws,p,i,w=>by
  rw[List.cons_append,BP,BP,KO ws,List.length_cons]
  congr 1
  omega
def Cf:Sp:=fun vs H Q _=>∃(a:Addr) (ws:List Str),vs=[.ref a]/\H a=some (.lst (ws.map V.str))/\ws.length<=1000/\
 ∀(d:Addr) (kvs:List (D7×V)) (H':Hp),j9 H H'->H d=none->H' d=some (.dK kvs)->X0 H H' kvs (BP [] 0 ws)->Q (.ref d) H'
def PU{v0:Addr}{H:Hp}{Q:VK}{E:XK}:=show Cf [.ref v0] H Q E=_ by
 simpa only[Cf]
 rfl
theorem DW:FnScope ["words","places","place","word"] ["words"] (i7 IT):=by ac_rfl
def Qdn(a d:Addr)(ws:List Str)(H:Hp)(i:Nat)(σ:St)(L:Hp):Prop:=∃(kvs:List (D7×V)) (v2 v3:Option V),σ=[some (.ref a),some (.ref d),v2,v3]/\j9 H L/\L d=some (.dK kvs)/\kvs.length<=i/\X0 H L kvs (BP [] 0 (ws.take i))/\∀ps∈(BP [] 0 (ws.take i)),ps.2.length<=i
theorem Qk(F:Fun K "places_by_word" "places_by_word" IT f fd)(T:Txt mg):FnOk P w K mg bs0 x8 1 f fd ["words"] Cf:=by
 refine F.ok DW (fun vs H Q E h=> ?_) (fun H9 A outer s H vs Q E hr h=> ?_)
 ·obtain⟨a,ws,rfl,_⟩:=h
  rfl
 obtain⟨a,ws,rfl,ha,hl,q⟩:=h
 refine⟨_,(c6 (i8 (i:=1) DW.nd rfl (Or.inl rfl) R7)
  (c6 (x9 o8 rfl (Jd rfl T.enumerate (c4 (i6 0) c8)) (LW K (n:=2) rfl (o9 (j5 (i:=2) DW.nd rfl (Or.inl rfl)) (o9 (j5 (i:=3) DW.nd rfl (Or.inl rfl)) P2)))
   (e7 (q0 (Ca K B6 N0 M8 y8 (Cr (i6 1) (i6 3) (B4 c8) ⟨rfl,rfl,rfl,rfl⟩) (c4 (i6 2) c8)))))
  (e7 (l6 (i6 1))))),?_⟩
 and_intros
 simpa only[↓Y5]
 intro d hd
 have had:a≠d:=k9 ha hd
 have De:(ws.map V.str).length=ws.length:=i5 _
 refine⟨⟨_,o6.of (k7 ha hd)⟩,EI (ws.map V.str) (Qdn a d ws H) ⟨[],none,none,rfl,d0 hd _,c5,l9 _,trivial,fun p hp=>(by cases hp)⟩ ?_ ?_ ?_⟩
 ·rintro i σ L hi ⟨kvs,v2,v3,rfl,sL,hk,VY,hv,hz⟩
  exact o6.of (sL _ _ ha)
 ·rintro i y T σ L hy ⟨kvs,v2,v3,rfl,sL,hk,VY,hv,hz⟩ hT
  rw[u8] at hy
  obtain⟨wd,YJ,rfl⟩:=D3.mp hy
  have Ux:i<ws.length:=(D9.mp YJ).1
  have sT:j9 H (upd L T (.tup [.int i, .str wd])):=sL.trans (d0 hT _)
  have hk':(upd L T (.tup [.int i, .str wd])) d=some (.dK kvs):=k7 hk hT
  have hv':=hv.same (d0 hT (.tup [.int i, .str wd]))
  have ep:BP [] 0 (ws.take (i+1))=Y1 (BP [] 0 (ws.take i)) wd (i:Int):=by
   rw[q9,YJ]
   show BP [] 0 (ws.take i++[wd])=_
   rw[KO,I9,Ha (by omega),Int.zero_add]
  have hz':∀x∈BP [] 0 (ws.take (i+1)),x.2.length<=i+1:=by rw[ep];exact XG hz
  simpa only[l8]
  refine⟨_,AG.of c5,rfl,?_⟩
  simpa only[↓Es]
  generalize upd L T (.tup [.int i, .str wd])=M at sT hk' hv'⊢
  refine⟨.inl ⟨kvs, .inl hk'⟩,by decide,fun p hp=> ?_⟩
  have hk2:(upd M p (.lst [])) d=some (.dK kvs):=k7 hk' hp
  have s3:j9 H (upd M p (.lst [])):=sT.trans (d0 hp _)
  have v3':=hv'.same (d0 hp (.lst []))
  have hpd:p≠d:=fun z=>by rw[z,hk'] at hp;cases hp
  refine⟨kvs,hk2, .inr _,rfl,P6 (by omega),fun v hvv=> ?_,fun QZ=> ?_⟩
  ·obtain⟨c,ps,rfl,g1,g2,g3⟩:=v3'.get hvv
   have hps:=hz _ (G8 g1)
   refine⟨.inl ⟨rfl,_,o6.of g3⟩,c,rfl,_,g3,P6 (by rw[i5];have hps':ps.length<=i:=hps;omega),kvs,_,_,rfl,s3.newer g2 _,?_,by omega,by rw[ep];exact v3'.grow hvv g3,hz'⟩
   rw[i4 (AO hk2 g3 (by intro z;cases z))]
   exact hk2
  ·have pn:H p=none:=sT.free hp
   have el:=X4 (V.ref p) QZ
   have epp:(upd (upd M p (.lst [])) d (.dK (Q3 kvs (.inr wd) (.ref p)))) p=some (.lst []):=by rw[i4 hpd];exact c5
   have nk:∀y∈kvs,y.2≠ .ref p:=fun y hy z=>by
    have key:∀{kvs:List (D7×V)} {q:Pl Str},X0 H M kvs q->y∈kvs->∃l u,y.2= .ref l/\M l=some u:=by
     intro kvs
     induction kvs with
     |nil=>intro q _ h;cases h
     |cons kv r ih=>
      intro q h hm
      cases q with
      |nil=>exact h.elim
      |cons x q=>
       rcases E8.mp hm with e|hm
       ·obtain⟨⟨l,e1,_,e3,_⟩,_⟩:=h
        exact⟨l,_,by rw[e,e1],e3⟩
       ·exact ih h.2 hm
    obtain⟨l,u,e1,e2⟩:=key hv' hy
    rw[z] at e1
    cases e1
    rw[hp] at e2
    cases e2
   refine⟨.inl ⟨rfl,_,o6.of epp⟩,[],epp,by decide,_,_,_,rfl,(s3.newer hd _).newer pn _,by rw[i4 hpd.symm];exact c5,?_,?_,hz'⟩
   ·rw[el,l0,Aa]
    omega
   ·rw[el,ep]
    refine X0.add c5 pn (v3'.congr fun y hy l u e1 e2=> ?_) QZ nk
    rw[i4 (fun z=>nk y hy (by rw[e1,z])),i4 (fun z=> ?_)]
    ·exact e2
    ·subst z
     rw[hk2] at e2
     have key:∀{kvs:List (D7×V)} {q:Pl Str},X0 H (upd M p (.lst [])) kvs q->y∈kvs->∃l ps,y.2= .ref l/\(upd M p (.lst [])) l=some (.lst ps):=by
      intro kvs
      induction kvs with
      |nil=>intro q _ h;cases h
      |cons kv r ih=>
       intro q h hm
       cases q with
       |nil=>exact h.elim
       |cons x q=>
        rcases E8.mp hm with e|hm
        ·obtain⟨⟨l,e1,_,e3,_⟩,_⟩:=h
         exact⟨l,_,by rw[e,e1],e3⟩
        ·exact ih h.2 hm
     obtain⟨l',ps,e3,e4⟩:=key v3' hy
     rw[e1] at e3
     cases e3
     rw[hk2] at e4
     cases e4
 ·rintro σ L ⟨kvs,v2,v3,rfl,sL,hk,VY,hv,hz⟩
  simpa only[l8]
  rw[De,B7] at hv
  exact q d kvs L sL hd hk hv
abbrev Db:=Addr->Option (List Str)
abbrev Fl:=List (Str×Wt Str)
def V8{κ α:Type}[DecidableEq κ](f:κ->α)(k:κ)(v:α):κ->α:=fun x=>if x=k then v else f x
theorem G9{κ α:Type}[DecidableEq κ]{f:κ->α}{k:κ}{v:α}:V8 f k v k=v:=if_pos rfl
theorem D0{κ α:Type}[DecidableEq κ]{f:κ->α}{k j:κ}{v:α}(h:j≠k):V8 f k v j=f j:=if_neg h
def Eg(G:Hp)(pa:Db)(H:Hp):Hp:=fun a=>if G a=none/\pa a=none then H a else none
theorem Bd{G H:Hp}{pa:Db}{a:Addr}{u:HO}(h:H a=some u)(g:G a=none)(p:pa a=none):Eg G pa H a=some u:=by unfold Eg;rw[if_pos ⟨g,p⟩];exact h
theorem BC{G H:Hp}{pa:Db}{a:Addr}{u:HO}(h:Eg G pa H a=some u):H a=some u/\G a=none/\pa a=none:=by
 unfold Eg at h
 by_cases ha:G a=none/\pa a=none
 ·rw[if_pos ha] at h;exact⟨h,ha⟩
 ·rw[if_neg ha] at h;cases h
theorem AB{G H H':Hp}{pa:Db}(s:j9 H H'):j9 (Eg G pa H) (Eg G pa H'):=fun a u h=>by
 obtain⟨h1,h2,h3⟩:=BC h
 exact Bd (s _ _ h1) h2 h3
theorem AT{G H:Hp}{pa:Db}{a:Addr}{o:HO}(h:pa a≠none):Eg G pa (upd H a o)=Eg G pa H:=by
 funext x
 unfold Eg
 by_cases hx:G x=none/\pa x=none
 ·rw[if_pos hx,if_pos hx,i4 (fun e=>h (by rw[<-e];exact hx.2))]
 ·rw[if_neg hx,if_neg hx]
theorem CY{G H:Hp}{pa:Db}{p:Addr}{o:HO}{q:List Str}(hp:H p=none):j9 (Eg G pa H) (Eg G (V8 pa p (some q)) (upd H p o)):=fun a u h=>by
 obtain⟨h1,h2,h3⟩:=BC h
 exact Bd (k7 h1 hp) h2 (by rw[D0 (k9 h1 hp)];exact h3)
def P9{α:Type}(da:Str->Addr)(F:List (Str×α)):List (D7×V):=F.map fun x=>(.inr x.1, .ref (da x.1))
theorem E4{α:Type}{da:Str->Addr}{f:Str}:∀{F:List (Str×α)},C7 (P9 da F) (.inr f)=(get F f).map fun _=>V.ref (da f)
 |[]=>rfl
 |x::F=>by
  show C7 ((.inr x.1, .ref (da x.1))::P9 da F) _=_
  by_cases h:x.1=f
  ·rw[E5 (by rw[h]),KT.get,if_pos h,h];rfl
  ·rw[E6 (fun e=>h (QQ e)),KT.get,if_neg h];exact E4
theorem MT{α:Type}{da:Str->Addr}{F:List (Str×α)}{f:Str}{g:Option α->α}(h:(get F f).isSome=true):P9 da (KT.mod F f g)=P9 da F:=by
 have e:∀F:List (Str×α),P9 da F=(F.map (·.1)).map fun x=>(.inr x, .ref (da x)):=fun F=>by unfold P9;rw[K8];rfl
 rw[e,e,Z6,if_pos (T5.mp h)]
theorem Jo{α:Type}{da:Str->Addr}{F:List (Str×α)}{f:Str}{p:Addr}{v:α}(h:get F f=none):P9 (V8 da f p) (F++[(f,v)])=P9 da F++[(.inr f, .ref p)]:=by
 unfold P9
 rw[n4]
 congr 1
 ·refine Af fun x hx=> ?_
  rw[D0 (fun e=> ?_)]
  have:=T5.mpr (y9.mpr ⟨x,hx,e⟩)
  rw[h] at this
  cases this
 ·show [((.inr f:D7),V.ref (V8 da f p f))]=_
  rw[G9]
theorem S8{α:Type}{da:Str->Addr}{F:List (Str×α)}:(P9 da F).length=F.length:=i5 _
structure TAt(R:Hp->HO->Rw->Prop)(G H:Hp)(b:Addr)(da:Str->Addr)(ra:Str->Str->Addr)(pa:Db)(F:Fl):Prop where
 base:j9 G H
 own:∀a,pa a≠none->G a=none/\H a≠none
 top:H b=some (.dK (P9 da F))/\pa b=some []
 fld:∀f D,get F f=some D->H (da f)=some (.dK (P9 (ra f) D))/\pa (da f)=some [f]
 row:∀f D w r,get F f=some D->get D w=some r->(∃o,H (ra f w)=some o/\R (Eg G pa H) o r)/\pa (ra f w)=some [f,w]
def RM(R:Hp->HO->Rw->Prop):Prop:=∀h h' o r,j9 h h'->R h o r->R h' o r
section
variable {R:Hp->HO->Rw->Prop} {G H:Hp} {b:Addr} {da:Str->Addr} {ra:Str->Str->Addr} {pa:Db} {F:Fl}
theorem W3{a c:Addr}{p q:List Str}(h:pa a=some p)(h':pa c=some q)(n:p≠q):a≠c:=fun e=>n (by rw[e,h'] at h;exact(Ab h).symm)
theorem TAt.same{H':Hp}(M:RM R)(t:TAt R G H b da ra pa F)(s:j9 H H'):TAt R G H' b da ra pa F:=
 ⟨t.base.trans s,fun a ha=>⟨(t.own a ha).1,fun e=>(t.own a ha).2 (s.free e)⟩,⟨s _ _ t.top.1,t.top.2⟩,fun f D h=>⟨s _ _ (t.fld f D h).1,(t.fld f D h).2⟩,fun f D w r h h'=>by
  obtain⟨⟨o,h1,h2⟩,h3⟩:=t.row f D w r h h'
  exact⟨⟨o,s _ _ h1,M _ _ _ _ (AB s) h2⟩,h3⟩⟩
theorem TAt.out{N:Addr}{q:List Str}{o:HO}(t:TAt R G H b da ra pa F)(hN:pa N=some q)(hq:2<q.length):TAt R G (upd H N o) b da ra pa F:=by
 have hn:pa N≠none:=by rw[hN];intro z;cases z
 have ne:∀{a p},pa a=some p->p.length<3->a≠N:=fun h h'=>W3 h hN (fun e=>by rw[e] at h';omega)
 refine⟨t.base.newer (t.own N hn).1 _,fun a ha=>⟨(t.own a ha).1,fun e=> ?_⟩,⟨by rw[i4 (ne t.top.2 (by decide))];exact t.top.1,t.top.2⟩,fun f D h=> ?_,fun f D w r h h'=> ?_⟩
 ·by_cases he:a=N
  ·rw[he,c5] at e;cases e
  ·rw[i4 he] at e;exact(t.own a ha).2 e
 ·obtain⟨h1,h2⟩:=t.fld f D h
  exact⟨by rw[i4 (ne h2 (by show 1<3;decide))];exact h1,h2⟩
 ·obtain⟨⟨o',h1,h2⟩,h3⟩:=t.row f D w r h h'
  exact⟨⟨o',by rw[i4 (ne h3 (by show 2<3;decide))];exact h1,by rw[AT hn];exact h2⟩,h3⟩
theorem TAt.chg{f w:Str}{D:Wt Str}{r r':Rw}{o:HO}(t:TAt R G H b da ra pa F)(hf:get F f=some D)(hw:get D w=some r)(hR:R (Eg G pa H) o r'):TAt R G (upd H (ra f w) o) b da ra pa (KT.mod F f fun _=>KT.mod D w fun _=>r'):=by
 obtain⟨_,h3⟩:=t.row f D w r hf hw
 have hn:pa (ra f w)≠none:=by rw[h3];intro z;cases z
 refine⟨t.base.newer (t.own _ hn).1 _,fun a ha=>⟨(t.own a ha).1,fun e=> ?_⟩,⟨by rw[i4 (W3 t.top.2 h3 (by intro z;cases z)),MT (by rw[hf];rfl)];exact t.top.1,t.top.2⟩,fun f' D' h=> ?_,fun f' D' w' s h h'=> ?_⟩
 ·by_cases he:a=ra f w
  ·rw[he,c5] at e;cases e
  ·rw[i4 he] at e;exact(t.own a ha).2 e
 ·by_cases e:f'=f
  ·subst e
   rw[J7] at h
   cases h
   obtain⟨h1,h2⟩:=t.fld f' D hf
   exact⟨by rw[i4 (W3 h2 h3 (by intro z;cases z)),MT (by rw[hw];rfl)];exact h1,h2⟩
  ·rw[N4 _ _ e] at h
   obtain⟨h1,h2⟩:=t.fld f' D' h
   exact⟨by rw[i4 (W3 h2 h3 (by intro z;cases z))];exact h1,h2⟩
 ·rw[AT hn]
  by_cases e:f'=f
  ·subst e
   rw[J7] at h
   cases h
   by_cases e:w'=w
   ·subst e
    rw[J7] at h'
    cases h'
    exact⟨⟨o,c5,hR⟩,h3⟩
   ·rw[N4 _ _ e] at h'
    obtain⟨⟨o',h1,h2⟩,h4⟩:=t.row f' D w' s hf h'
    exact⟨⟨o',by rw[i4 (W3 h4 h3 (by intro z;cases z;exact e rfl))];exact h1,h2⟩,h4⟩
  ·rw[N4 _ _ e] at h
   obtain⟨⟨o',h1,h2⟩,h4⟩:=t.row f' D' w' s h h'
   exact⟨⟨o',by rw[i4 (W3 h4 h3 (by intro z;cases z;exact e rfl))];exact h1,h2⟩,h4⟩
theorem TAt.old{a p:Addr}(t:TAt R G H b da ra pa F)(h:pa a≠none)(hp:H p=none):a≠p:=fun e=>(t.own a h).2 (by rw[e];exact hp)
theorem TAt.addW{f w:Str}{D:Wt Str}{r:Rw}{o:HO}{p:Addr}(M:RM R)(t:TAt R G H b da ra pa F)(hf:get F f=some D)(hw:get D w=none)(hp:H p=none)(hR:R (Eg G pa H) o r):TAt R G (upd (upd H p o) (da f) (.dK (P9 (ra f) D++[(.inr w, .ref p)]))) b da (V8 ra f (V8 (ra f) w p)) (V8 pa p (some [f,w])) (KT.mod F f fun _=>D++[(w,r)]):=by
 obtain⟨hd,h3⟩:=t.fld f D hf
 have hn:pa (da f)≠none:=by rw[h3];intro z;cases z
 have np:da f≠p:=t.old hn hp
 have so:∀{a q},pa a=some q->a≠p:=fun h=>t.old (by rw[h];intro z;cases z) hp
 have ph:∀{a q},pa a=some q->V8 pa p (some [f,w]) a=some q:=fun h=>by rw[D0 (so h)];exact h
 have hn':V8 pa p (some [f,w]) (da f)≠none:=by rw[ph h3];intro z;cases z
 have sR:j9 (Eg G pa H) (Eg G (V8 pa p (some [f,w])) (upd (upd H p o) (da f) (.dK (P9 (ra f) D++[(.inr w, .ref p)])))):=by rw[AT hn'];exact CY hp
 have gp:G p=none:=t.base.free hp
 refine⟨(t.base.newer gp _).newer (t.own _ hn).1 _,fun a ha=> ?_,⟨by rw[i4 (W3 t.top.2 h3 (by intro z;cases z)),i4 (so t.top.2),MT (by rw[hf];rfl)];exact t.top.1,ph t.top.2⟩,fun f' D' h=> ?_,fun f' D' w' s h h'=> ?_⟩
 ·by_cases ep:a=p
  ·exact⟨by rw[ep];exact gp,by rw[ep,i4 np.symm,c5];intro z;cases z⟩
  ·rw[D0 ep] at ha
   refine⟨(t.own a ha).1,fun e=> ?_⟩
   by_cases ed:a=da f
   ·rw[ed,c5] at e;cases e
   ·rw[i4 ed,i4 ep] at e;exact(t.own a ha).2 e
 ·by_cases e:f'=f
  ·subst e
   rw[J7] at h
   cases h
   exact⟨by rw[c5,G9,Jo hw],ph h3⟩
  ·rw[N4 _ _ e] at h
   obtain⟨h1,h2⟩:=t.fld f' D' h
   exact⟨by rw[i4 (W3 h2 h3 (by intro z;cases z;exact e rfl)),i4 (so h2),D0 e];exact h1,ph h2⟩
 ·by_cases e:f'=f
  ·subst e
   rw[J7] at h
   cases h
   rw[G9]
   by_cases e:w'=w
   ·subst e
    rw[G9]
    have e2:s=r:=by
     rw[<-P4 hw (fun _=>r),J7] at h'
     exact(Ab h').symm
    subst e2
    exact⟨⟨o,by rw[i4 np.symm,c5],M _ _ _ _ sR hR⟩,G9⟩
   ·rw[D0 e]
    rw[<-P4 hw (fun _=>r),N4 _ _ e] at h'
    obtain⟨⟨o',h1,h2⟩,h4⟩:=t.row f' D w' s hf h'
    exact⟨⟨o',by rw[i4 (W3 h4 h3 (by intro z;cases z)),i4 (so h4)];exact h1,M _ _ _ _ sR h2⟩,ph h4⟩
  ·rw[N4 _ _ e] at h
   rw[D0 e]
   obtain⟨⟨o',h1,h2⟩,h4⟩:=t.row f' D' w' s h h'
   exact⟨⟨o',by rw[i4 (W3 h4 h3 (by intro z;cases z)),i4 (so h4)];exact h1,M _ _ _ _ sR h2⟩,ph h4⟩
theorem TAt.addF{f:Str}{p:Addr}(M:RM R)(t:TAt R G H b da ra pa F)(hf:get F f=none)(hp:H p=none):TAt R G (upd (upd H p (.dK [])) b (.dK (P9 da F++[(.inr f, .ref p)]))) b (V8 da f p) ra (V8 pa p (some [f])) (F++[(f,[])]):=by
 obtain⟨hd,h3⟩:=t.top
 have hn:pa b≠none:=by rw[h3];intro z;cases z
 have np:b≠p:=t.old hn hp
 have so:∀{a q},pa a=some q->a≠p:=fun h=>t.old (by rw[h];intro z;cases z) hp
 have ph:∀{a q},pa a=some q->V8 pa p (some [f]) a=some q:=fun h=>by rw[D0 (so h)];exact h
 have hn':V8 pa p (some [f]) b≠none:=by rw[ph h3];intro z;cases z
 have sR:j9 (Eg G pa H) (Eg G (V8 pa p (some [f])) (upd (upd H p (.dK [])) b (.dK (P9 da F++[(.inr f, .ref p)])))):=by rw[AT hn'];exact CY hp
 have gp:G p=none:=t.base.free hp
 have ge:∀{f'},f'≠f->get (F++[(f,[])]) f'=get F f':=fun e=>by rw[<-P4 hf (fun _=>[]),N4 _ _ e]
 have gf:get (F++[(f,([]:Wt Str))]) f=some []:=by rw[<-P4 hf (fun _=>[]),J7]
 refine⟨(t.base.newer gp _).newer (t.own _ hn).1 _,fun a ha=> ?_,⟨by rw[c5,Jo hf],ph h3⟩,fun f' D' h=> ?_,fun f' D' w' s h h'=> ?_⟩
 ·by_cases ep:a=p
  ·exact⟨by rw[ep];exact gp,by rw[ep,i4 np.symm,c5];intro z;cases z⟩
  ·rw[D0 ep] at ha
   refine⟨(t.own a ha).1,fun e=> ?_⟩
   by_cases ed:a=b
   ·rw[ed,c5] at e;cases e
   ·rw[i4 ed,i4 ep] at e;exact(t.own a ha).2 e
 ·by_cases e:f'=f
  ·subst e
   rw[gf] at h
   cases h
   exact⟨by rw[G9,i4 np.symm,c5];rfl,by rw[G9,G9]⟩
  ·rw[ge e] at h
   obtain⟨h1,h2⟩:=t.fld f' D' h
   exact⟨by rw[D0 e,i4 (W3 h2 h3 (by intro z;cases z)),i4 (so h2)];exact h1,by rw[D0 e];exact ph h2⟩
 ·by_cases e:f'=f
  ·subst e
   rw[gf] at h
   cases h
   cases h'
  ·rw[ge e] at h
   obtain⟨⟨o',h1,h2⟩,h4⟩:=t.row f' D' w' s h h'
   exact⟨⟨o',by rw[i4 (W3 h4 h3 (by intro z;cases z)),i4 (so h4)];exact h1,M _ _ _ _ sR h2⟩,ph h4⟩
end
structure Fr(G:Hp)(pa:Db)(H:Hp)(AJ:Db)(H':Hp):Prop where
 free:j9 (Eg G pa H) (Eg G AJ H')
 far:∀a q,pa a=some q->2<q.length->H' a=H a/\AJ a=some q
theorem Fr.refl{G H:Hp}{pa:Db}:Fr G pa H pa H:=⟨j9.refl _,fun _ _ h _=>⟨rfl,h⟩⟩
theorem Fr.trans{G H H1 H2:Hp}{pa p1 p2:Db}(h:Fr G pa H p1 H1)(h':Fr G p1 H1 p2 H2):Fr G pa H p2 H2:=
 ⟨h.free.trans h'.free,fun a q e n=>by
  obtain⟨e1,e2⟩:=h.far a q e n
  obtain⟨e3,e4⟩:=h'.far a q e2 n
  exact⟨e3.trans e1,e4⟩⟩
theorem Fr.own{G H:Hp}{pa:Db}{a:Addr}{o:HO}{q:List Str}(h:pa a=some q)(n:q.length<3):Fr G pa H pa (upd H a o):=
 ⟨by rw[AT (by rw[h];intro z;cases z)];exact j9.refl _,fun c q' e n'=>⟨i4 (W3 e h (fun z=>by rw[z] at n';omega)),e⟩⟩
theorem Fr.new{G H:Hp}{pa:Db}{p:Addr}{o:HO}{q:List Str}(hp:H p=none)(hn:∀a,pa a≠none->H a≠none):Fr G pa H (V8 pa p (some q)) (upd H p o):=
 ⟨CY hp,fun c q' e n'=>by
  have:c≠p:=fun z=>hn c (by rw[e];intro z;cases z) (by rw[z];exact hp)
  exact⟨i4 this,by rw[D0 this];exact e⟩⟩
theorem Fr.same{G H H':Hp}{pa:Db}(s:j9 H H')(hn:∀a,pa a≠none->H a≠none):Fr G pa H pa H':=
 ⟨AB s,fun c q' e n'=>by
  cases h:H c with
  |none=>exact absurd h (hn c (by rw[e];intro z;cases z))
  |some u=>exact⟨s _ _ h,e⟩⟩
theorem Fr.at_{G H H':Hp}{pa AJ:Db}{a:Addr}{u:HO}(h:Fr G pa H AJ H')(e:H a=some u)(g:G a=none)(p:pa a=none):H' a=some u/\AJ a=none:=by
 obtain⟨h1,_,h2⟩:=BC (h.free _ _ (Bd e g p))
 exact⟨h1,h2⟩
def Df(x:Int×List Int):DV:= .tup [.int x.1, .lst (x.2.map DV.int)]
def Rp(h:Hp)(o:HO)(r:Rw):Prop:=∃xs,o= .lst xs/\i3 h (r.map Df) xs
theorem Ka:RM Rp:=fun h h' o r s ⟨xs,e,d⟩=>⟨xs,e,i3.same s _ _ d⟩
theorem X0.at_{G H:Hp}:∀{kvs:List (D7×V)} {p:Pl Str} {i:Nat} {k:D7} {v:V},X0 G H kvs p->kvs[i]? =some (k,v)->∃l x,p[i]? =some x/\k= .inr x.1/\v= .ref l/\G l=none/\H l=some (.lst (x.2.map V.int))
 |kv::r,x::p,0,k,v,⟨⟨l,e,g,hl,_⟩,_⟩,hk=>by
  simp at hk
  rw[e] at hk
  cases hk
  exact⟨l,x,rfl,rfl,rfl,g,hl⟩
 |kv::r,x::p,i+1,k,v,⟨_,h⟩,hk=>by
  obtain⟨l,y,h1,h2⟩:=X0.at_ (i:=i) h (by simpa using hk)
  exact⟨l,y,by simpa using h1,h2⟩
 |[],[],i,k,v,_,hk=>by simp at hk
 |[],_::_,_,_,_,h,_=>h.elim
 |_::_,[],_,_,_,h,_=>h.elim
theorem Rx:∀{kvs:List (D7×V)} {i:Nat} {k:D7} {v:V},(kvs.map (·.1)).Nodup->kvs[i]? =some (k,v)->C7 kvs k=some v
 |kv::r,0,k,v,nd,hk=>by
  simp at hk
  rw[hk,E5 rfl]
 |kv::r,i+1,k,v,nd,hk=>by
  rw[List.map_cons,Y3] at nd
  have hk':r[i]? =some (k,v):=by simpa using hk
  obtain⟨k0,v0⟩:=kv
  have Ep:k∈r.map (·.1):=y9.mpr ⟨_,E7 hk',rfl⟩
  rw[E6 (fun e=>nd.1 (by have e':k0=k:=e;rw[e'];exact Ep))]
  exact Rx nd.2 hk'
 |[],i,k,v,_,hk=>by simp at hk
theorem Dn{m:Int}{n:Nat}:∀{p:Pl Str} {D:Wt Str},D.length<=n->(∀x∈D,x.2.length<=n)->(putAll m D p).length<=n+p.length/\∀x∈putAll m D p,x.2.length<=n+p.length
 |[],D,h,h'=>⟨h,h'⟩
 |y::p,D,h,h'=>by
  have e1:(V0 m D y).length<=n+1:=by
   have:=congrArg List.length (Z6 D y.1 fun o=>o.getD []++[(m,y.2)])
   rw[i5] at this
   unfold V0
   rw[this]
   split<;>simp<;>omega
  have:=Dn (m:=m) (n:=n+1) (p:=p) e1 (Te (h:=fun x hx=>h' x hx))
  rw[List.length_cons]
  have e:n+1+p.length=n+(p.length+1):=by omega
  rw[e] at this
  exact this
theorem Jb:∀(ws:List Str) (p:Pl Str) (i:Int),(BP p i ws).length<=p.length+ws.length
 |[],p,i=>l9 _
 |w::ws,p,i=>by
  have:=Jb ws (Y1 p w i) (i+1)
  have e:(Y1 p w i).length<=p.length+1:=by
   have:=congrArg List.length (Z6 p w fun o=>o.getD []++[i])
   rw[i5] at this
   unfold Y1
   rw[this]
   split<;>simp
  rw[BP,List.length_cons]
  omega
def Yn:Sp:=fun vs H Q _=>∃(G:Hp) (b:Addr) (da:Str->Addr) (ra:Str->Str->Addr) (pa:Db) (F:Fl) (fl:Str) (D:Wt Str) (n:Nat) (m:Int) (a:Addr) (ws:List Str),vs=[.ref (da fl), .int m, .ref a]/\TAt Rp G H b da ra pa F/\get F fl=some D/\D.length<=n/\(∀x∈D,x.2.length<=n)/\n<=1000000/\
 H a=some (.lst (ws.map V.str))/\ws.length<=1000/\∀Ff AJ H',TAt Rp G H' b da Ff AJ (KT.mod F fl fun _=>putAll m D (BP [] 0 ws))->Fr G pa H AJ H'->Q .non H'
theorem SL:FnScope ["by_word","make","words","places","word"] ["by_word","make","words"] (i7 Qag):=by ac_rfl
def YG(G H1:Hp)(b a d:Addr)(da:Str->Addr)(pa:Db)(m:Int)(F:Fl)(fl:Str)(D:Wt Str)(p:Pl Str)(i:Nat)(σ:St)(L:Hp):Prop:=∃(Ff:Str->Str->Addr) (AJ:Db) (v4:Option V),σ=[some (.ref (da fl)),some (.int m),some (.ref a),some (.ref d),v4]/\TAt Rp G L b da Ff AJ (KT.mod F fl fun _=>putAll m D (p.take i))/\Fr G pa H1 AJ L
theorem QaU{g:Addr}{gd:FuncData}(F:Fun K "add_postings" "add_postings" Qag f fd)(T:Txt mg)(GB:FnOk P w K mg bs0 x8 1 g gd ["words"] Cf)(bB:Binds K gd ["words"] [])(kB:PySem.W.keepIn K (.ref g)=true)(mB:mg "places_by_word"=some (.ref g)):FnOk P w K mg bs0 x8 2 f fd ["by_word","make","words"] Yn:=by
 refine F.ok SL (fun vs H Q E h=> ?_) (fun H9 A outer s H vs Q E hr h=> ?_)
 ·obtain⟨G,b,da,ra,pa,F,fl,D,n,m,a,ws,rfl,_⟩:=h
  rfl
 obtain⟨G,b,da,ra,pa,F,fl,D,n,m,a,ws,rfl,hT,hF,VY,hrl,hn,ha,hl,q⟩:=h
 refine⟨_,(c6 (i8 (i:=3) SL.nd rfl (Or.inl rfl) (i9 GB hr rfl mB kB bB .nil j3 (c4 (i6 2) c8)))
  (e7 (x9 o8 rfl (Je (i6 3)) (j5 (i:=4) SL.nd rfl (Or.inl rfl))
   (e7 (q0 (Ca K B6 N0 M8 y8 (Cr (i6 0) (i6 4) (B4 c8) ⟨rfl,rfl,rfl,rfl⟩) (c4 (P8 (c4 (i6 1) (c4 (Z1 (T4 hr) (i6 3) (i6 4) (fun _ _=>rfl)) c8))) c8))))))),?_⟩
 and_intros
 simpa only[↓PU,Cf,↓OR]
 refine⟨ws,ha,hl,fun d pk H1 s1 hd hd1 Hf=>⟨pk,hd1,fun o=> ?_⟩⟩
 have fd:∀{l},H l=none->G l=none/\pa l=none:=fun{l} h=>⟨hT.base.free h,CF fun e=>(hT.own l e).2 h⟩
 have s2:j9 H (upd H1 d (.frz o (.dK pk))):=s1.newer hd _
 have t2:=hT.same Ka s2
 have hpd:∀{l u},H1 l=some u->u≠ .dK pk->(upd H1 d (.frz o (.dK pk))) l=some u:=fun h h'=>by rw[i4 (AO h hd1 h')];exact h
 have hd2:(upd H1 d (.frz o (.dK pk))) d=some (.frz o (.dK pk)):=c5
 have hnd:(pk.map (·.1)).Nodup:=by
  rw[Hf.keys]
  have:=CS ws ([]:Pl Str) 0 AF
  exact this.map Sum.inr (fun a b e c=>e (QQ c))
 have hpe:=Hf.keys
 have hplen:pk.length=(BP [] 0 ws).length:=by have:=congrArg List.length hpe;simpa using this
 have hp1:=Jb ws [] 0
 have VZ:=Fr.same (G:=G) s2 (fun a ha=>(hT.own a ha).2)
 generalize upd H1 d (.frz o (.dK pk))=M at s2 t2 hpd hd2 VZ⊢
 refine EJ (YG G M b a d da pa m F fl D (BP [] 0 ws)) ⟨ra,pa,none,rfl,by rw[M6];show TAt Rp G M b da ra pa (KT.mod F fl fun _=>D);rw[Jm hF];exact t2,Fr.refl⟩ ?_ ?_ ?_
 ·rintro i σ L ⟨Ff,AJ,v4,rfl,t,fr⟩
  exact(fr.at_ hd2 (fd hd).1 (fd hd).2).1
 ·rintro i k v0 σ L hk ⟨Ff,AJ,v4,rfl,t,fr⟩
  have Ux:i<pk.length:=(D9.mp hk).1
  obtain⟨l,x,hx,rfl,rfl,hl1,hl2⟩:=Hf.at_ hk
  have hvv:=Rx hnd hk
  have hdL:=(fr.at_ hd2 (fd hd).1 (fd hd).2).1
  obtain⟨hlL,hlp⟩:=fr.at_ (hpd hl2 (by intro z;cases z)) (fd hl1).1 (fd hl1).2
  have hgl:=(fd hl1).1
  have eT:putAll m D ((BP [] 0 ws).take (i+1))=V0 m (putAll m D ((BP [] 0 ws).take i)) x:=by rw[q9,hx];exact putAll_snoc _ _ _ _
  have hsz:=Dn (m:=m) (p:=(BP [] 0 ws).take i) VY hrl
  have htl:((BP [] 0 ws).take i).length<=1000:=by rw[I9];simp at hp1;omega
  have hg:=J7 F fl fun _=>putAll m D ((BP [] 0 ws).take i)
  generalize hF1:(KT.mod F fl fun _=>putAll m D ((BP [] 0 ws).take i))=F1 at t hg
  have eF:∀D',(KT.mod F fl fun _=>D')=KT.mod F1 fl fun _=>D':=fun D'=>by rw[<-hF1,Z3]
  unfold YG
  rw[eT,eF]
  generalize putAll m D ((BP [] 0 ws).take i)=D1 at hsz hg⊢
  obtain⟨hfd,hfp⟩:=t.fld fl D1 hg
  simpa only[↓Es,↓DN]
  have szl:=T6
  refine⟨.inl ⟨_, .inl hfd⟩,by decide,fun p hp=> ?_⟩
  have sp:=d0 hp (.lst [])
  have hnp:da fl≠p:=k9 hfd hp
  refine⟨_,sp _ _ hfd, .inr x.1,rfl,by rw[S8];omega,fun v hv=> ?_,fun QZ=> ?_⟩
  ·rw[E4] at hv
   obtain⟨r,hr1,rfl⟩:=D3.mp hv
   obtain⟨⟨ob,ho1,xs,rfl,ho2⟩,ho3⟩:=t.row fl D1 x.1 r hg hr1
   have hrl2:=hsz.2 _ (G8 hr1)
   have De:xs.length=r.length:=by have:=ho2.length;rwa [i5] at this
   refine⟨.inl ⟨rfl,_,o6.of (sp _ _ ho1)⟩, .ref l, .inl ⟨pk, .inr x.1, .inr ⟨o,sp _ _ hdL⟩,rfl,hvv.symm⟩,by decide,fun p1 hp1=> ?_⟩
   have sp1:=d0 hp1 (.tup [.int m, .ref l])
   have s12:=sp.trans sp1
   have t3:=t.same Ka s12
   refine⟨_,rfl,xs,s12 _ _ ho1,by simp only at hrl2;omega,Ff,AJ,?_,fr.trans ((Fr.same s12 fun a ha=>(t.own a ha).2).trans (Fr.own ho3 (by show 2<3;decide)))⟩
   have hR:Rp (Eg G AJ (upd (upd L p (.lst [])) p1 (.tup [.int m, .ref l]))) (.lst (xs++[.ref p1])) (r++[(m,x.2)]):=by
    refine⟨_,rfl,?_⟩
    rw[n4]
    refine(i3.same (AB s12) _ _ ho2).app (i3.one ?_)
    have hpG:G p1=none:=(t.base.trans sp).free hp1
    have hpP:AJ p1=none:=CF fun e=>(t.own p1 e).2 (sp.free hp1)
    unfold Df
    rw[n8]
    refine⟨p1,_,rfl,Bd c5 hpG hpP,?_⟩
    rw[i3]
    refine⟨_,_,rfl,by rw[n8],i3.one ?_⟩
    rw[n8]
    exact⟨l,_,rfl,Bd (s12 _ _ hlL) hgl hlp,i3.ints _⟩
   have:=t3.chg hg hr1 hR
   have eD:V0 m D1 x=KT.mod D1 x.1 fun _=>r++[(m,x.2)]:=by
    unfold V0
    exact K5 (by rw[hr1];rfl)
   rw[eD]
   exact this
  ·rw[E4] at QZ
   have Gi:get D1 x.1=none:=JN.mp QZ
   have el:=X4 (kvs:=P9 (Ff fl) D1) (k:=(.inr x.1:D7)) (V.ref p) (by rw[E4,Gi];rfl)
   have hR0:Rp (Eg G AJ L) (.lst []) []:=⟨[],rfl,i3.nil⟩
   have ta:=t.addW (p:=p) Ka hg Gi hp hR0
   have fa:Fr G AJ L (V8 AJ p (some [fl,x.1])) (upd (upd L p (.lst [])) (da fl) (.dK (P9 (Ff fl) D1++[(.inr x.1, .ref p)]))):=(Fr.new hp fun a ha=>(t.own a ha).2).trans (Fr.own (q:=[fl]) (by rw[D0 hnp];exact hfp) (by show 1<3;decide))
   rw[el]
   generalize upd (upd L p (.lst [])) (da fl) (.dK (P9 (Ff fl) D1++[(.inr x.1, .ref p)]))=M1 at ta fa⊢
   have fra:=fr.trans fa
   have hdM:=(fra.at_ hd2 (fd hd).1 (fd hd).2).1
   obtain⟨hlM,hlP⟩:=fra.at_ (hpd hl2 (by intro z;cases z)) (fd hl1).1 (fd hl1).2
   have hg2:=J7 F1 fl fun _=>D1++[(x.1,([]:Rw))]
   have hw2:get (D1++[(x.1,([]:Rw))]) x.1=some []:=by rw[<-P4 Gi (fun _=>[]),J7]
   obtain⟨⟨ob,ho1,xs,rfl,ho2⟩,ho3⟩:=ta.row fl _ x.1 [] hg2 hw2
   have Hv:xs=[]:=by have:=ho2.length;exact Dy this
   subst Hv
   have era:V8 Ff fl (V8 (Ff fl) x.1 p) fl x.1=p:=by rw[G9,G9]
   refine⟨.inl ⟨rfl,_,o6.of (by rw[<-era];exact ho1)⟩, .ref l, .inl ⟨pk, .inr x.1, .inr ⟨o,hdM⟩,rfl,hvv.symm⟩,by decide,fun p1 hp1=> ?_⟩
   have sp1:=d0 hp1 (.tup [.int m, .ref l])
   have t3:=ta.same Ka sp1
   rw[era] at ho1
   refine⟨[],sp1 _ _ ho1,by show 0<sizeLine;omega,V8 Ff fl (V8 (Ff fl) x.1 p),_,?_,fra.trans ((Fr.same sp1 fun a ha=>(ta.own a ha).2).trans (Fr.own (q:=[fl,x.1]) G9 (by show 2<3;decide)))⟩
   have hR:Rp (Eg G (V8 AJ p (some [fl,x.1])) (upd M1 p1 (.tup [.int m, .ref l]))) (.lst ([]++[.ref p1])) ([(m,x.2)]):=by
    refine⟨_,rfl,i3.one ?_⟩
    have hpG:G p1=none:=ta.base.free hp1
    have hpP:(V8 AJ p (some [fl,x.1])) p1=none:=CF fun e=>(ta.own p1 e).2 hp1
    unfold Df
    rw[n8]
    refine⟨p1,_,rfl,Bd c5 hpG hpP,?_⟩
    rw[i3]
    refine⟨_,_,rfl,by rw[n8],i3.one ?_⟩
    rw[n8]
    exact⟨l,_,rfl,Bd (sp1 _ _ hlM) hgl hlP,i3.ints _⟩
   have:=t3.chg hg2 hw2 hR
   rw[era,Z3,<-P4 Gi (fun _=>[]),Z3] at this
   have eD:V0 m D1 x=KT.mod D1 x.1 fun _=>[(m,x.2)]:=by
    unfold V0
    exact K5 (by rw[Gi];rfl)
   rw[eD]
   exact this
 ·rintro σ L ⟨Ff,AJ,v4,rfl,t,fr⟩
  rw[hplen,B7] at t
  exact q Ff AJ L t (VZ.trans fr)
def BL(m:Int)(F:Fl)(f:Str)(ws:List Str):Fl:=if ws=[] then F else KT.mod F f fun o=>putAll m (o.getD []) (BP [] 0 ws)
def BZ(m:Int)(F:Fl)(d:List BN):Fl:=d.foldl (fun F y=>BL m F y.1 (A7 y.2)) F
def J5(F:Fl)(ms:List Mk):Fl:=ms.foldl (fun F x=>BZ x.1 F x.2) F
theorem JA{m:Int}{F:Fl}{d:List BN}{j:Nat}{y:BN}(h:d[j]? =some y):BZ m F (d.take (j+1))=BL m (BZ m F (d.take j)) y.1 (A7 y.2):=by
 rw[q9,h]
 exact Dv ..
theorem NR{F:Fl}{ms:List Mk}{i:Nat}{x:Mk}(h:ms[i]? =some x):J5 F (ms.take (i+1))=BZ x.1 (J5 F (ms.take i)) x.2:=by
 rw[q9,h]
 exact Dv ..
def Sz(n:Nat)(F:Fl):Prop:=F.length<=n/\∀x∈F,x.2.length<=n/\∀y∈x.2,y.2.length<=n
theorem Sz.mono{n m:Nat}{F:Fl}(h:Sz n F)(e:n<=m):Sz m F:=⟨Ad h.1 e,fun x hx=>⟨Ad (h.2 x hx).1 e,fun y hy=>Ad ((h.2 x hx).2 y hy) e⟩⟩
theorem Sz.at_{n:Nat}{F:Fl}{f:Str}(h:Sz n F):((get F f).getD []).length<=n/\∀y∈(get F f).getD [],y.2.length<=n:=by
 cases e:get F f with
 |none=>exact⟨x5 _,fun y hy=>by cases hy⟩
 |some D=>exact h.2 _ (G8 e)
theorem Xc{κ α:Type}[DecidableEq κ]{F:List (κ×α)}{f:κ}{g:Option α->α}:(KT.mod F f g).length<=F.length+1:=by
 have:=congrArg List.length (Z6 F f g)
 rw[i5] at this
 rw[this]
 split<;>simp
theorem FA{n:Nat}{m:Int}{F:Fl}{f:Str}{ws:List Str}(h:Sz n F)(hw:ws.length<=1000):Sz (n+1000) (BL m F f ws):=by
 unfold BL
 split
 ·exact h.mono (by omega)
 ·refine⟨Ad Xc (by have:=h.1;omega),fun x hx=> ?_⟩
  rcases An hx with e|e
  ·have:=h.2 x e
   exact⟨by omega,fun y hy=>by have:=this.2 y hy;omega⟩
  ·subst e
   have a:=h.at_ (f:=f)
   have b:=Dn (m:=m) (p:=BP [] 0 ws) a.1 a.2
   have c:=Jb ws [] 0
   have d:(BP [] 0 ws).length<=1000:=by simp at c;omega
   exact⟨by have:=b.1;simp only;omega,fun y hy=>by have:=b.2 y hy;omega⟩
abbrev LT:=List (List D7×V)
def Dt(m:Int)(T:LT)(y:BN):LT:=if A7 y.2=[] then T else Q3 T [.inl m, .inr y.1] (.int (A7 y.2).length)
def Ds(m:Int)(T:LT)(d:List BN):LT:=d.foldl (Dt m) T
def BY(T:LT)(ms:List Mk):LT:=ms.foldl (fun T x=>Ds x.1 T x.2) T
theorem Xf{m:Int}{T:LT}{d:List BN}{j:Nat}{y:BN}(h:d[j]? =some y):Ds m T (d.take (j+1))=Dt m (Ds m T (d.take j)) y:=by
 rw[q9,h]
 exact Dv ..
theorem Xe{T:LT}{ms:List Mk}{i:Nat}{x:Mk}(h:ms[i]? =some x):BY T (ms.take (i+1))=Ds x.1 (BY T (ms.take i)) x.2:=by
 rw[q9,h]
 exact Dv ..
def LV(T:LT)(m:Int)(f:Str):V:=(C7 T [.inl m, .inr f]).getD (.int 0)
def UP(d:List BN)(f:Str):Nat:=(A7 ((get d f).getD "")).length
theorem Aq:A7 ""=[]:=by decide+kernel
theorem OJ{m k:Int}{T:LT}{y:BN}{f:Str}(h:¬(k=m/\f=y.1)):LV (Dt m T y) k f=LV T k f:=by
 unfold Dt LV
 split
 ·rfl
 ·rw[DM,if_neg (fun e=>h (by cases e;exact⟨rfl,rfl⟩))]
theorem Xg{m:Int}{T:LT}{y:BN}(h:LV T m y.1= .int 0):LV (Dt m T y) m y.1= .int (A7 y.2).length:=by
 unfold Dt
 split
 ·rename_i e;rw[h,e];rfl
 ·unfold LV;rw[DM,if_pos rfl];rfl
theorem Fu{m k:Int}{f:Str}:∀{d:List BN} {T:LT},(k=m->f∉d.map (·.1))->LV (Ds m T d) k f=LV T k f
 |[],T,_=>rfl
 |y::d,T,h=>by
  show LV (Ds m (Dt m T y) d) k f=_
  rw[Fu (d:=d) fun e z=>h e (D5 _ z),OJ fun e=>h e.1 (by rw[e.2];exact C0)]
theorem OI{m:Int}{f:Str}:∀{d:List BN} {T:LT},(d.map (·.1)).Nodup->LV T m f= .int 0->LV (Ds m T d) m f= .int (UP d f)
 |[],T,_,h=>by rw[show Ds m T []=T from rfl,h];unfold UP;rw[show (get ([]:List BN) f).getD ""="" from rfl,Aq];rfl
 |y::d,T,nd,h=>by
  rw[List.map_cons,Y3] at nd
  show LV (Ds m (Dt m T y) d) m f=_
  by_cases e:y.1=f
  ·subst e
   rw[Fu (d:=d) fun _=>nd.1,Xg h]
   unfold UP
   rw[KT.get,if_pos rfl]
   rfl
  ·rw[OI nd.2 (by rw[OJ fun z=>e z.2.symm];exact h)]
   unfold UP
   rw[KT.get,if_neg e]
theorem Jn{k:Int}{f:Str}:∀{ms:List Mk} {T:LT},k∉ms.map (·.1)->LV (BY T ms) k f=LV T k f
 |[],T,_=>rfl
 |x::ms,T,h=>by
  show LV (BY (Ds x.1 T x.2) ms) k f=_
  rw[Jn (ms:=ms) fun z=>h (D5 _ z),Fu fun e=>absurd (by rw[e];exact C0) h]
theorem OH{x:Mk}{f:Str}:∀{ms:List Mk} {T:LT},(ms.map (·.1)).Nodup->(x.2.map (·.1)).Nodup->x∈ms->LV T x.1 f= .int 0->LV (BY T ms) x.1 f= .int (UP x.2 f)
 |y::ms,T,nd,nx,hx,h=>by
  rw[List.map_cons,Y3] at nd
  show LV (BY (Ds y.1 T y.2) ms) x.1 f=_
  rcases E8.mp hx with e|hx
  ·subst e
   rw[Jn nd.1,OI nx h]
  ·have:x.1≠y.1:=fun e=>nd.1 (by rw[<-e];exact y9.mpr ⟨x,hx,rfl⟩)
   exact OH nd.2 nx hx (by rw[Fu fun e=>absurd e this];exact h)
theorem Ug{m:Int}{T:LT}{y:BN}:(Dt m T y).length<=T.length+1:=by
 unfold Dt
 split
 ·omega
 ·exact W7 _ _ _
theorem Bt:∀{d:List BN} {p:Str} {j:Nat},dw p j d=none->(∀y∈d,p.cps.toList<y.1.cps.toList)/\(d.map (·.1)).Nodup
 |[],p,j,_=>⟨fun y hy=>(by cases hy),AF⟩
 |x::r,p,j,h=>by
  rw[dw] at h
  by_cases c:Fi p x.1=true
  ·rw[if_pos c] at h;cases h
  ·rw[if_neg c] at h
   obtain⟨h1,h2⟩:=Bt h
   have hp:p.cps.toList<x.1.cps.toList:=by
    unfold Fi at c
    rw[Bool.not_eq_true,Vw] at c
    have:=c.2
    rw[Bool.not_eq_false'] at this
    exact A2 this
   refine⟨fun y hy=> ?_,?_⟩
   ·rcases E8.mp hy with e|hy
    ·rw[e];exact hp
    ·exact List.lt_trans hp (h1 y hy)
   ·rw[List.map_cons,Y3]
    refine⟨fun z=> ?_,h2⟩
    obtain⟨y,hy,e⟩:=y9.mp z
    have:=h1 y hy
    rw[e] at this
    exact List.lt_irrefl _ this
theorem V6:∀{ms:List Mk} {p:Int},mw p ms->(∀x∈ms,p<x.1)/\(ms.map (·.1)).Nodup
 |[],p,_=>⟨fun y hy=>(by cases hy),AF⟩
 |x::r,p,h=>by
  obtain⟨h1,h2⟩:=V6 h.2.2
  refine⟨fun y hy=> ?_,?_⟩
  ·rcases E8.mp hy with e|hy
   ·rw[e];exact h.1
   ·have:=h1 y hy;have:=h.1;omega
  ·rw[List.map_cons,Y3]
   refine⟨fun z=> ?_,h2⟩
   obtain⟨y,hy,e⟩:=y9.mp z
   have:=h1 y hy
   omega
def LQ(m:Int)(D:Wt Str):Prop:=∀y∈D,(y.2.map (·.1)).Pairwise (· < ·)/\∀q∈y.2,q.1<m
theorem LQ.mono{m n:Int}{D:Wt Str}(h:LQ m D)(e:m<=n):LQ n D:=fun y hy=>⟨(h y hy).1,fun q hq=>by have:=(h y hy).2 q hq;omega⟩
theorem LQ.free{m:Int}{D:Wt Str}(h:LQ m D):Qbw m D:=fun w r hr=>by
 cases e:get r m with
 |none=>rfl
 |some v=>
  have:=(h _ (G8 hr)).2 _ (G8 e)
  simp only at this
  omega
theorem HQ{m:Int}:∀{p:Pl Str} {D:Wt Str},(p.map (·.1)).Nodup->LQ (m+1) D->(∀y∈D,y.1∈p.map (·.1)->∀q∈y.2,q.1<m)->LQ (m+1) (putAll m D p)
 |[],D,_,h,_=>h
 |x::p,D,nd,h,h'=>by
  rw[List.map_cons,Y3] at nd
  refine HQ (p:=p) (D:=V0 m D x) nd.2 (fun y hy=> ?_) (fun y hy hp=> ?_)
  ·rcases An hy with e|e
   ·exact h y e
   ·subst e
    have key:((get D x.1).getD []).map (·.1) |>.Pairwise (· < ·):=by
     cases e:get D x.1 with
     |none=>exact List.Pairwise.nil
     |some r=>exact(h _ (G8 e)).1
    have key2:∀q∈(get D x.1).getD [],q.1<m:=by
     cases e:get D x.1 with
     |none=>intro q hq;cases hq
     |some r=>exact h' _ (G8 e) C0
    refine⟨?_,fun q hq=> ?_⟩
    ·show (((get D x.1).getD []++[(m,x.2)]).map (·.1)).Pairwise (· < ·)
     rw[n4,AD]
     refine⟨key,GZ _ _,fun a ha b hb=> ?_⟩
     obtain⟨q,hq,rfl⟩:=y9.mp ha
     rw[D4.mp hb]
     exact key2 q hq
    ·rcases U3.mp hq with hq|hq
     ·have:=key2 q hq;omega
     ·rw[D4.mp hq];show m<m+1;omega
  ·rcases An hy with e|e
   ·exact h' y e (D5 _ hp)
   ·subst e
    exact absurd hp nd.1
def DOk(m:Int)(d:List BN)(F:Fl):Prop:=∀x∈F,LQ (m+1) x.2/\(x.1∈d.map (·.1)->LQ m x.2)
theorem DOk.at_{m:Int}{d:List BN}{F:Fl}{y:BN}(h:DOk m (y::d) F):LQ m ((get F y.1).getD []):=by
 cases e:get F y.1 with
 |none=>intro y hy;cases hy
 |some D=>exact(h _ (G8 e)).2 C0
theorem DOk.step{m:Int}{d:List BN}{F:Fl}{y:BN}{ws:List Str}(h:DOk m (y::d) F)(nd:((y::d).map (·.1)).Nodup):DOk m d (BL m F y.1 ws):=by
 have hm:∀x∈F,LQ (m+1) x.2/\(x.1∈d.map (·.1)->LQ m x.2):=fun x hx=>⟨(h x hx).1,fun z=>(h x hx).2 (D5 _ z)⟩
 rw[List.map_cons,Y3] at nd
 unfold BL
 split
 ·exact hm
 ·intro x hx
  rcases An hx with e|e
  ·exact hm x e
  ·subst e
   exact⟨HQ (CS ws [] 0 AF) (h.at_.mono (by omega)) fun y hy _=>(h.at_ y hy).2,fun z=>absurd z nd.1⟩
theorem Fx{m:Int}{d:List BN}{F:Fl}(h:∀x∈F,LQ m x.2)(nd:(d.map (·.1)).Nodup):∀j,j<=d.length->DOk m (d.drop j) (BZ m F (d.take j))
 |0,_=>fun x hx=>⟨(h x hx).mono (by omega),fun _=>h x hx⟩
 |j+1,hj=>by
  have e:d[j]? =some d[j]:=u9 hj
  have ih:=Fx h nd j (by omega)
  rw[AE hj] at ih
  rw[JA e]
  refine ih.step ?_
  rw[<-AE hj,Np]
  exact nd.sublist (List.drop_sublist _ _)
theorem NP:∀{ms:List Mk} {p:Int} {F:Fl} {i:Nat} {x:Mk},mw p ms->(∀y∈F,LQ (p+1) y.2)->ms[i]? =some x->∀y∈J5 F (ms.take i),LQ x.1 y.2
 |z::ms,p,F,0,x,h,hF,e=>by
  simp at e
  subst e
  exact fun y hy=>(hF y hy).mono (by have:=h.1;omega)
 |z::ms,p,F,i+1,x,h,hF,e=>by
  have nd:=(Bt h.2.1).2
  have:=Fx (m:=z.1) (d:=z.2) (F:=F) (fun y hy=>(hF y hy).mono (by have:=h.1;omega)) nd z.2.length (l9 _)
  rw[B7] at this
  exact NP (ms:=ms) (F:=BZ z.1 F z.2) (i:=i) h.2.2 (fun y hy=>(this y hy).1) (by simpa using e)
 |[],p,F,i,x,h,hF,e=>by simp at e
theorem Kk:∀{ms:List Mk} {p:Int} {F:Fl},mw p ms->(∀y∈F,LQ (p+1) y.2)->∃M,∀y∈J5 F ms,LQ M y.2
 |[],p,F,_,h=>⟨_,h⟩
 |z::ms,p,F,h,hF=>by
  have nd:=(Bt h.2.1).2
  have:=Fx (m:=z.1) (d:=z.2) (F:=F) (fun y hy=>(hF y hy).mono (by have:=h.1;omega)) nd z.2.length (l9 _)
  rw[B7] at this
  exact Kk (ms:=ms) (F:=BZ z.1 F z.2) h.2.2 (fun y hy=>(this y hy).1)
def Ct(m:Int)(f:Str)(F:Fl)(i:Int):List Str->Fl
 |[]=>F
 |w::r=>Ct m f (KT.mod F f fun o=>Ji m (o.getD []) w i) (i+1) r
theorem KU{m:Int}{f:Str}:∀{ws:List Str} {i:Int} {F:Fl} {g:Option (Wt Str)->Wt Str},Ct m f (KT.mod F f g) i ws=KT.mod F f fun o=>WX m (g o) i ws
 |[],i,F,g=>rfl
 |w::r,i,F,g=>by rw[Ct,Z3,KU (ws:=r)];rfl
theorem EC{m:Int}{f:Str}{F:Fl}(hf:Qbw m ((get F f).getD []))(ws:List Str):Ct m f F 0 ws=BL m F f ws:=by
 unfold BL
 cases ws with
 |nil=>rfl
 |cons w r=>
  rw[if_neg (by intro z;cases z),Ct,KU]
  apply K5
  exact KS hf (w::r) [] 0 AF
theorem HX{m:Int}{f:Str}{w:Str}:∀{ws:List Str} {i:Int} {F:Fl},Ct m f F i (ws++[w])=KT.mod (Ct m f F i ws) f fun o=>Ji m (o.getD []) w (i+ws.length)
 |[],i,F=>by simp [Ct]
 |x::ws,i,F=>by
  rw[List.cons_append,Ct,Ct,HX (ws:=ws),List.length_cons]
  congr 1
  funext o
  congr 1
  omega
def nw(G H:Hp):Hp:=fun a=>if G a=none then H a else none
theorem C6{G H:Hp}{a:Addr}{u:HO}(h:H a=some u)(g:G a=none):nw G H a=some u:=by unfold nw;rw[if_pos g];exact h
theorem Am{G H:Hp}:j9 (nw G H) H:=fun a u h=>by
 unfold nw at h
 by_cases g:G a=none
 ·rw[if_pos g] at h;exact h
 ·rw[if_neg g] at h;cases h
theorem TQ{G H:Hp}{a:Addr}(g:G a≠none):nw G H a=none:=by unfold nw;rw[if_neg g]
structure FE(F F':Fl):Prop where
 kf:(F.map (·.1)).Perm (F'.map (·.1))
 kw:∀f,(((get F f).getD []).map (·.1)).Perm (((get F' f).getD []).map (·.1))
 row:∀f w,(get ((get F f).getD []) w).getD []=(get ((get F' f).getD []) w).getD []
theorem FE.refl(F:Fl):FE F F:=⟨.refl _,fun _=> .refl _,fun _ _=>rfl⟩
def Qc3:List Str:=["","",""]
def QX(N B om:Addr):List (Str×V):=J6 "lengths" (.ref N) (J6 "by_field" (.ref B) (J6 "own_makes" (.ref om) []))
def XN(H:Hp)(d:Addr)(D:Wt Str):Prop:=∃ra:Str->Addr,H d=some (.dK (P9 ra D))/\∀w r,get D w=some r->∃xs,H (ra w)=some (.lst xs)/\i3 H (r.map Df) xs
def Rh(H:Hp)(b:Addr)(F:Fl):Prop:=∃da:Str->Addr,H b=some (.dK (P9 da F))/\∀f D,get F f=some D->XN H (da f) D
theorem XN.same{H L:Hp}{d:Addr}{D:Wt Str}(h:XN H d D)(s:j9 H L):XN L d D:=by
 obtain⟨ra,h1,h2⟩:=h
 exact⟨ra,s _ _ h1,fun w r e=>let ⟨xs,h3,h4⟩:=h2 w r e;⟨xs,s _ _ h3,i3.same s _ _ h4⟩⟩
theorem Rh.same{H L:Hp}{b:Addr}{F:Fl}(h:Rh H b F)(s:j9 H L):Rh L b F:=by
 obtain⟨da,h1,h2⟩:=h
 exact⟨da,s _ _ h1,fun f D e=>(h2 f D e).same s⟩
theorem TAt.fat{G H:Hp}{b:Addr}{da:Str->Addr}{ra:Str->Str->Addr}{pa:Db}{F:Fl}(t:TAt Rp G H b da ra pa F):Rh (nw G H) b F:=by
 have on:∀{a q},pa a=some q->G a=none:=fun h=>(t.own _ (by rw[h];intro z;cases z)).1
 refine⟨da,C6 t.top.1 (on t.top.2),fun f D h=>⟨ra f,C6 (t.fld f D h).1 (on (t.fld f D h).2),fun w r h'=> ?_⟩⟩
 obtain⟨⟨o,h1,xs,rfl,h2⟩,h3⟩:=t.row f D w r h h'
 exact⟨xs,C6 h1 (on h3),i3.same (fun a u z=>let ⟨z1,z2,_⟩:=BC z;C6 z1 z2) _ _ h2⟩
def Zb(ms:List Mk):Prop:=ms.length<=200/\∀m∈ms,m.2.length<=4/\∀y∈m.2,y.1.length<=1000/\y.2.length<=900/\Px y.2
def Dj(m:Mk)(f:Str):List Str:=A7 ((get m.2 f).getD "")
def IF(ms:List Mk)(f:Str):Nat:=(ms.map fun m=>(Dj m f).length).sum
def Ok(ms:List Mk):Prop:=Zb ms/\mw (-1) ms/\(∀m∈ms,m.1<16384)/\(∀f,IF ms f<=3000)/\∃nm:List Str,nm.length<=4/\∀m∈ms,∀y∈m.2,y.1∈nm/\∀c∈y.2.cps.toList,c≠100/\c≠68
theorem Ok.nil:Ok []:=⟨⟨x5 _,fun m hm=>(by cases hm)⟩,trivial,fun m hm=>(by cases hm),fun _=>x5 _,[],x5 _,fun m hm=>(by cases hm)⟩
theorem HP:∀{l:List Str} {p:Str},PyProof.Rows.risingS p l=true->(∀y∈l,¬y.cps.toList<p.cps.toList)/\l.Pairwise fun a b=>¬b.cps.toList<a.cps.toList
 |[],p,_=>⟨fun y hy=>(by cases hy),List.Pairwise.nil⟩
 |x::r,p,h=>by
  have h1:(!PySem.Spec.ltCps x.cps.toList p.cps.toList&&PyProof.Rows.risingS x r)=true:=h
  rw[Q0,PyProof.Rows.ltCps_eq] at h1
  obtain⟨h2,h3⟩:=h1
  have h4:¬x.cps.toList<p.cps.toList:=by
   intro z
   rw[R8 z] at h2
   cases h2
  obtain⟨i1,i2⟩:=HP h3
  refine⟨fun y hy=> ?_,DB.mpr ⟨i1,i2⟩⟩
  rcases E8.mp hy with e|hy
  ·rw[e];exact h4
  ·exact BH.mpr (List.le_trans (BH.mp h4) (BH.mp (i1 y hy)))
theorem PV{l:List Str}(h:PyProof.Rows.sortedS l=true):l.Pairwise fun a b=>¬b.cps.toList<a.cps.toList:=by
 cases l with
 |nil=>exact List.Pairwise.nil
 |cons x r=>
  obtain⟨h1,h2⟩:=HP (p:=x) (l:=r) h
  exact DB.mpr ⟨h1,h2⟩
theorem Pb{m:Int}:∀{d:List BN} {n:Nat} {F:Fl},(∀y∈d,y.2.length<=900)->Sz n F->Sz (n+1000*d.length) (BZ m F d)
 |[],n,F,_,h=>h
 |y::d,n,F,hd,h=>by
  have:=Pb (m:=m) (d:=d) (fun z hz=>hd z (D5 _ hz)) (FA (m:=m) (f:=y.1) h (Au (hd y C0)))
  rw[List.length_cons]
  exact this.mono (by omega)
theorem NO:∀{ms:List Mk} {n:Nat} {F:Fl},(∀m∈ms,m.2.length<=4/\∀y∈m.2,y.1.length<=1000/\y.2.length<=900/\Px y.2)->Sz n F->Sz (n+4000*ms.length) (J5 F ms)
 |[],n,F,_,h=>h
 |m::ms,n,F,hm,h=>by
  have h1:=hm m C0
  have:=NO (ms:=ms) (fun z hz=>hm z (D5 _ hz)) (Pb (m:=m.1) (fun y hy=>(h1.2 y hy).2.1) h)
  rw[List.length_cons]
  exact this.mono (by omega)
theorem Mj{ms:List Mk}(h:Zb ms):Sz 800000 (J5 [] ms):=(NO (F:=[]) (n:=0) h.2 ⟨x5 _,fun x hx=>(by cases hx)⟩).mono (by have:=h.1;omega)
def leS(a b:Str):Bool:= !decide (b.cps.toList<a.cps.toList)
def RS(l:List Str):List Str:=l.mergeSort leS
theorem C3(l:List Str):(RS l).Perm l:=List.mergeSort_perm _ _
theorem RP(l:List Str):(RS l).Pairwise fun a b=>¬b.cps.toList<a.cps.toList:=by
 have h:∀a b,leS a b=true↔¬b.cps.toList<a.cps.toList:=fun a b=>by unfold leS;rw[Bool.not_eq_true',decide_eq_false_iff_not]
 refine(List.pairwise_mergeSort (le:=leS) (fun a b c h1 h2=> ?_) (fun a b=> ?_) l).imp fun{a b} z=>(h a b).mp z
 ·rw[h] at h1 h2⊢
  exact BH.mpr (List.le_trans (BH.mp h1) (BH.mp h2))
 ·rw[Vb,h,h]
  by_cases c:b.cps.toList<a.cps.toList
  ·exact .inr (List.lt_asymm c)
  ·exact .inl c
theorem IK{a b:Str}(e:a.cps.toList=b.cps.toList):a=b:=by
 obtain⟨as⟩:=a
 obtain⟨bs⟩:=b
 exact congrArg Str.mk (Array.toList_inj.mp e)
theorem Bw{l k ys:List Str}(p:ys.Perm l)(s:PyProof.Rows.sortedS ys=true)(q:k.Perm l):RS k=ys:=
 List.Perm.eq_of_pairwise (fun a b _ _ h1 h2=>IK (List.le_antisymm (BH.mp h1) (BH.mp h2))) (RP k) (PV s) ((C3 k).trans (q.trans p.symm))
theorem RQ{l:List Str}(h:l.Nodup):(RS l).Pairwise fun a b=>a.cps.toList<b.cps.toList:=by
 have n:(RS l).Nodup:=(C3 l).nodup_iff.mpr h
 refine((RP l).and n).imp fun{a b} z=> ?_
 rcases List.le_iff_lt_or_eq.mp (BH.mp z.1) with y|y
 ·exact y
 ·exact absurd (IK y) z.2
def AL(C:Addr)(M:Hp)(x:Addr)(ms:List Mk):Prop:=Ok ms/\∃(dx om B N:Addr) (F:Fl) (T:LT),M x=some (.ins C dx (QX N B om))/\M om=some (.lst (ms.map fun m=> .int m.1))/\Rh M B F/\M N=some (.dT T)/\FE F (J5 [] ms)/\∀m f,LV T m f=LV (BY [] ms) m f
theorem AL.same{C x:Addr}{M L:Hp}{ms:List Mk}(h:AL C M x ms)(s:j9 M L):AL C L x ms:=by
 obtain⟨ok,dx,om,B,N,F,T,h1,h2,h3,h4,h5⟩:=h
 exact⟨ok,dx,om,B,N,F,T,s _ _ h1,s _ _ h2,h3.same s,s _ _ h4,h5⟩
def Dl(C:Addr):Sp:=fun vs H Q _=>∃(G:Hp) (x dx a:Addr) (ms:List Mk) (xs:List V),vs=[.ref x, .ref a]/\j9 G H/\G x=none/\H x=some (.ins C dx [])/\G a=some (.lst xs)/\i3 G (ms.map QD) xs/\Ok ms/\∀M H',AL C M x ms->j9 M H'->(∀a,G a≠none->M a=none)->j9 G H'->Q .non H'
def Of{C:Addr}{v0:Addr}{v1:Addr}{H:Hp}{Q:VK}{E:XK}:=show Dl C [.ref v0, .ref v1] H Q E=_ by
 simpa only[Dl]
 rfl
def PI(G:Hp)(x om B N C dx:Addr)(ms:List Mk)(F:Fl)(T:LT)(L:Hp):Prop:=∃(da:Str->Addr) (ra:Str->Str->Addr) (pa:Db),TAt Rp G L B da ra pa F/\pa N=some Qc3/\L N=some (.dT T)/\L x=some (.ins C dx (QX N B om))/\pa x=none/\L om=some (.lst (ms.map fun m=> .int m.1))/\pa om=none
theorem PI.same{G:Hp}{x om B N C dx:Addr}{ms:List Mk}{F:Fl}{T:LT}{L M:Hp}(h:PI G x om B N C dx ms F T L)(s:j9 L M):PI G x om B N C dx ms F T M:=by
 obtain⟨da,ra,pa,h1,h2,h3,h4,h5,h6,h7⟩:=h
 exact⟨da,ra,pa,h1.same Ka s,h2,s _ _ h3,s _ _ h4,h5,s _ _ h6,h7⟩
theorem PI.base{G:Hp}{x om B N C dx:Addr}{ms:List Mk}{F:Fl}{T:LT}{L:Hp}(h:PI G x om B N C dx ms F T L):j9 G L:=by
 obtain⟨da,ra,pa,h1,_⟩:=h
 exact h1.base
theorem Ex:FnScope ["self","makes","make","document","field","text","words"] ["self","makes"] (i7 On):=by ac_rfl
def Qbc(ms:List Mk)(L0:Hp)(i:Nat)(ys:List V)(σ:St)(L:Hp):Prop:=∃v0 v1:Option V,σ=[v0,v1]/\L=L0/\ys=(ms.take i).map fun m=> .int m.1
def Qdk(G:Hp)(x om B N C dx a:Addr)(ms:List Mk)(i:Nat)(σ:St)(L:Hp):Prop:=∃v2 v3 v4 v5 v6:Option V,σ=[some (.ref x),some (.ref a),v2,v3,v4,v5,v6]/\PI G x om B N C dx ms (J5 [] (ms.take i)) (BY [] (ms.take i)) L/\Sz (4*i*1000) (J5 [] (ms.take i))/\(BY [] (ms.take i)).length<=4*i
def QcR(G:Hp)(x om B N C dx a:Addr)(ms:List Mk)(m:Mk)(d:V)(i j:Nat)(σ:St)(L:Hp):Prop:=∃v4 v5 v6:Option V,σ=[some (.ref x),some (.ref a),some (.int m.1),some d,v4,v5,v6]/\PI G x om B N C dx ms (BZ m.1 (J5 [] (ms.take i)) (m.2.take j)) (Ds m.1 (BY [] (ms.take i)) (m.2.take j)) L/\Sz ((4*i+j)*1000) (BZ m.1 (J5 [] (ms.take i)) (m.2.take j))/\(Ds m.1 (BY [] (ms.take i)) (m.2.take j)).length<=4*i+j
theorem WT{C gm gw ga:Addr}{dm dw da:FuncData}(F:Fun K "__init__" "Piece.__init__" On f fd)(T:Txt mg)(cl:Cls K C)(n1:J8 K C "own_makes")(n2:J8 K C "by_field")(n3:J8 K C "lengths")
  (GM:FnOk P w K mg bs0 x8 4 gm dm ["makes"] DQ)(bM:Binds K dm ["makes"] [])(kM:PySem.W.keepIn K (.ref gm)=true)(mM:mg "look_at_makes"=some (.ref gm))
  (GW:FnOk P w K mg bs0 x8 5 gw dw ["text"] Cj)(bW:Binds K dw ["text"] [])(kW:PySem.W.keepIn K (.ref gw)=true)(mW:mg "bare_words"=some (.ref gw))
  (GA:FnOk P w K mg bs0 x8 2 ga da ["by_word","make","words"] Yn)(bA:Binds K da ["by_word","make","words"] [])(kA:PySem.W.keepIn K (.ref ga)=true)(mA:mg "add_postings"=some (.ref ga)):FnOk P w K mg bs0 x8 6 f fd ["self","makes"] (Dl C):=by
 refine F.ok Ex (fun vs H Q E h=> ?_) (fun H9 A outer s H vs Q E hr h=> ?_)
 ·obtain⟨G,x,dx,a,ms,xs,rfl,_⟩:=h
  rfl
 obtain⟨G,x,dx,a,ms,xs,rfl,sG,gx,hx,ga',hD,hOk,q⟩:=h
 obtain⟨⟨hl,Eh⟩,LZ,_⟩:=id hOk
 have hr2:Room 2 _:=hr.mono (by decide)
 have hr4:Room 4 _:=hr.mono (by decide)
 refine⟨_,(c6 (q0 (i9 GM hr4 rfl mM kM bM .nil j3 (c4 (i6 1) c8)))
  (c6 (Co (i6 0) (X7 (N:=["make","document"]) (pick:=[none,none]) (NX:=["self","makes","make","document","field","text","words"]) (sX:=i7 On) (by decide+kernel) rfl rfl rfl (r9 K (i6 1))
    (fun _ _ _ _=>(LW K (n:=2) rfl (o9 (j5 (i:=0) Qcx rfl (Or.inl rfl)) (o9 (j5 (i:=1) Qcx rfl (Or.inl rfl)) P2)))) (fun _ _ _ _=>R0) (fun _ _ _ _=>(i6 0))) rfl)
  (c6 (Co (i6 0) R7 rfl)
  (c6 (Co (i6 0) FX rfl)
  (e7 (x9 o8 rfl (r9 K (i6 1)) (LW K (n:=2) rfl (o9 (j5 (i:=2) Ex.nd rfl (Or.inl rfl)) (o9 (j5 (i:=3) Ex.nd rfl (Or.inl rfl)) P2)))
   (e7 (x9 o8 rfl (r9 K (i6 3)) (LW K (n:=2) rfl (o9 (j5 (i:=4) Ex.nd rfl (Or.inl rfl)) (o9 (j5 (i:=5) Ex.nd rfl (Or.inl rfl)) P2)))
   (c6 (i8 (i:=6) Ex.nd rfl (Or.inl rfl) (i9 GW hr rfl mW kW bW .nil j3 (c4 (i6 5) c8)))
  (e7 (C4 (Cn (i6 6) (fun _=>rfl)) (c6 (CQ (T4 hr) (Y6 (i6 0) rfl) (P8 (c4 (i6 2) (c4 (i6 4) c8))) (j6 (Ba K) rfl T.len A9 (c4 (i6 6) c8)) rfl)
  (e7 (q0 (i9 GA hr2 rfl mA kA bA .nil j3 (c4 (Cr (Y6 (i6 0) rfl) (i6 4) R7 ⟨rfl,rfl,rfl,rfl⟩) (c4 (i6 2) (c4 (i6 6) c8))))))) o7))))))))))),?_⟩
 and_intros
 simpa only[↓Si,DQ,↓Hk,↓WA,↓EY,↓II,↓Y5,↓Es]
 refine⟨ms,xs,sG _ _ ga',i3.same sG _ _ hD,by omega,fun m hm=>⟨by have:=(Eh m hm).1;omega,fun y hy=>((Eh m hm).2 y hy).1⟩,LZ,?_⟩
 intro H1 s1
 have sG1:=sG.trans s1
 have ha1:=sG1 _ _ ga'
 have hx1:=s1 _ _ hx
 have hD1:=i3.same sG1 _ _ hD
 have De:xs.length=ms.length:=by have:=hD.length;rwa [i5] at this
 refine⟨⟨xs,o6.of ha1⟩,Y9 xs (Qbc ms H1) ⟨none,none,rfl,rfl,rfl⟩ ?_ ?_ ?_⟩
 ·rintro i ys σ L hi ⟨v0,v1,rfl,rfl,rfl⟩
  exact⟨o6.of ha1,Dh (P6 (by rw[i5,I9];omega))⟩
 ·rintro i y ys σ L hy ⟨v0,v1,rfl,rfl,rfl⟩
  obtain⟨dv,h1,h2⟩:=hD1.get hy
  rw[u8] at h1
  obtain⟨m,hm,rfl⟩:=D3.mp h1
  obtain⟨b,c,zs,rfl,hb,hc,hz⟩:=Gv h2
  simpa only[l8]
  refine⟨_,AG.of hb,rfl,?_⟩
  simpa only[l8]
  exact⟨_,_,rfl,rfl,by rw[q9,hm,n4];rfl⟩
 ·rintro ys σ L ⟨v0,v1,rfl,rfl,rfl⟩ om Uw
  rw[De,B7]
  have hx2:=k7 (o:= .lst (ms.map fun m=> .int m.1)) hx1 Uw
  refine⟨C,dx,[],hx2,cl,n1,by decide,fun B hB=> ?_⟩
  have gom:G om=none:=sG1.free Uw
  have nom:om≠x:=fun z=>by rw[z,hx1] at Uw;cases Uw
  have s3:j9 G (upd (upd L om (.lst (ms.map fun m=> .int m.1))) x (.ins C dx (J6 "own_makes" (.ref om) []))):=(sG1.trans (d0 Uw _)).newer gx _
  have hom3:(upd (upd L om (.lst (ms.map fun m=> .int m.1))) x (.ins C dx (J6 "own_makes" (.ref om) []))) om=some (.lst (ms.map fun m=> .int m.1)):=by rw[i4 nom];exact c5
  have hx3:(upd (upd L om (.lst (ms.map fun m=> .int m.1))) x (.ins C dx (J6 "own_makes" (.ref om) []))) x=_:=c5
  generalize upd (upd L om (.lst (ms.map fun m=> .int m.1))) x (.ins C dx (J6 "own_makes" (.ref om) []))=M1 at hB s3 hom3 hx3⊢
  have gB:G B=none:=s3.free hB
  have nB:B≠x:=fun z=>by rw[z,hx3] at hB;cases hB
  have nBo:B≠om:=fun z=>by rw[z,hom3] at hB;cases hB
  refine⟨C,dx,_,k7 hx3 hB,cl,n2,(by show 1<1000;decide),fun N hN=> ?_⟩
  have s5:=(s3.trans (d0 hB (.dK []))).newer gx (.ins C dx (J6 "by_field" (.ref B) (J6 "own_makes" (.ref om) [])))
  have hB5:(upd (upd M1 B (.dK [])) x (.ins C dx (J6 "by_field" (.ref B) (J6 "own_makes" (.ref om) [])))) B=some (.dK []):=by rw[i4 nB];exact c5
  have hx5:(upd (upd M1 B (.dK [])) x (.ins C dx (J6 "by_field" (.ref B) (J6 "own_makes" (.ref om) [])))) x=_:=c5
  have hom5:(upd (upd M1 B (.dK [])) x (.ins C dx (J6 "by_field" (.ref B) (J6 "own_makes" (.ref om) [])))) om=_:=(i4 nom).trans (k7 hom3 hB)
  generalize upd (upd M1 B (.dK [])) x (.ins C dx (J6 "by_field" (.ref B) (J6 "own_makes" (.ref om) [])))=M2 at hN s5 hB5 hx5 hom5⊢
  have gN:G N=none:=s5.free hN
  have nN:N≠x:=fun z=>by rw[z,hx5] at hN;cases hN
  have nBN:B≠N:=fun z=>by rw[<-z,hB5] at hN;cases hN
  have nNo:N≠om:=fun z=>by rw[z,hom5] at hN;cases hN
  refine⟨C,dx,_,k7 hx5 hN,cl,n3,(by show 2<1000;decide),?_⟩
  have p0:PI G x om B N C dx ms [] [] (upd (upd M2 N (.dT [])) x (.ins C dx (J6 "lengths" (.ref N) (J6 "by_field" (.ref B) (J6 "own_makes" (.ref om) []))))):=by
   have z1:(upd (upd M2 N (.dT [])) x (.ins C dx (J6 "lengths" (.ref N) (J6 "by_field" (.ref B) (J6 "own_makes" (.ref om) []))))) B=some (.dK []):=by rw[i4 nB];exact k7 hB5 hN
   have z2:(upd (upd M2 N (.dT [])) x (.ins C dx (J6 "lengths" (.ref N) (J6 "by_field" (.ref B) (J6 "own_makes" (.ref om) []))))) N=some (.dT []):=by rw[i4 nN];exact c5
   refine⟨fun _=>0,fun _ _=>0,V8 (V8 (fun _=>none) B (some [])) N (some Qc3),⟨(s5.trans (d0 hN (.dT []))).newer gx _,fun a ha=> ?_,⟨z1,by rw[D0 nBN,G9]⟩,fun f D h=>(by cases h),fun f D w r h=>(by cases h)⟩,G9,z2,c5,by rw[D0 nN.symm,D0 nB.symm],by rw[i4 nom];exact k7 hom5 hN,by rw[D0 nNo.symm,D0 nBo.symm]⟩
   by_cases e1:a=N
   ·exact⟨by rw[e1];exact gN,by rw[e1,z2];intro z;cases z⟩
   ·rw[D0 e1] at ha
    by_cases e2:a=B
    ·exact⟨by rw[e2];exact gB,by rw[e2,z1];intro z;cases z⟩
    ·rw[D0 e2] at ha
     exact absurd rfl ha
  have lB:(QX N B om).lookup ("by_field":Str)=some (V.ref B):=rfl
  have lN:(QX N B om).lookup ("lengths":Str)=some (V.ref N):=rfl
  generalize upd (upd M2 N (.dT [])) x (.ins C dx (J6 "lengths" (.ref N) (J6 "by_field" (.ref B) (J6 "own_makes" (.ref om) []))))=M0 at p0⊢
  refine⟨⟨xs,o6.of (p0.base _ _ ga')⟩,w6 xs (Qdk G x om B N C dx a ms) ⟨_,_,_,_,_,rfl,p0,⟨x5 _,fun x hx=>(by cases hx)⟩,x5 _⟩ ?_ ?_ ?_⟩
  ·rintro i σ L hi ⟨v2,v3,v4,v5,v6,rfl,pi,_⟩
   exact o6.of (pi.base _ _ ga')
  ·rintro i y σ L hy ⟨v2,v3,v4,v5,v6,rfl,pi,hsz,hts⟩
   obtain⟨dv,h1,h2⟩:=hD.get hy
   rw[u8] at h1
   obtain⟨m,hm,rfl⟩:=D3.mp h1
   obtain⟨b,c,zs,rfl,hb,hc,hz⟩:=Gv h2
   have OV:m∈ms:=E7 hm
   have Ux:i<ms.length:=(D9.mp hm).1
   simpa only[↓Fm,Cj]
   refine⟨_,AG.of (pi.base _ _ hb),rfl,?_⟩
   simpa only[↓Fm,Cj]
   refine⟨⟨zs,o6.of (pi.base _ _ hc)⟩,w6 zs (QcR G x om B N C dx a ms m (.ref c) i) ⟨_,_,_,rfl,pi,hsz,hts⟩ ?_ ?_ ?_⟩
   ·rintro j σ L hj ⟨v4,v5,v6,rfl,pj,_⟩
    exact o6.of (pj.base _ _ hc)
   ·rintro j y σ L hyj ⟨v4,v5,v6,rfl,pj,Ef,htj⟩
    obtain⟨dv,h1,h2⟩:=hz.get hyj
    rw[u8] at h1
    obtain⟨fl,Xu,rfl⟩:=D3.mp h1
    obtain⟨t,rfl,ht⟩:=Ng h2
    have Wa:fl∈m.2:=E7 Xu
    have hjl:j<m.2.length:=(D9.mp Xu).1
    obtain⟨b1,b2,b3⟩:=(Eh m OV).2 fl Wa
    simpa only[↓Fm,Cj]
    refine⟨_,AG.of (pj.base _ _ ht),rfl,?_⟩
    simpa only[↓Fm,Cj]
    refine⟨by omega,b3,fun r H' s' hr' hH'=> ?_⟩
    have hm20:=(Eh m OV).1
    have LY:=Au b2
    have eF:=JA (m:=m.1) (F:=J5 [] (ms.take i)) Xu
    have eT:=Xf (m:=m.1) (T:=BY [] (ms.take i)) Xu
    have MZ:=FA (m:=m.1) (f:=fl.1) Ef LY
    have MY:(Dt m.1 (Ds m.1 (BY [] (ms.take i)) (m.2.take j)) fl).length<=4*i+(j+1):=Ad Ug (by omega)
    unfold QcR
    rw[eF,eT]
    have e20:(4*i+j)*1000+1000=(4*i+(j+1))*1000:=by omega
    rw[e20] at MZ
    generalize BZ m.1 (J5 [] (ms.take i)) (m.2.take j)=F0 at pj Ef MZ⊢
    generalize Ds m.1 (BY [] (ms.take i)) (m.2.take j)=T0 at pj htj MY⊢
    generalize hws:A7 fl.2=ws at hH' LY MZ
    refine⟨!(ws.map V.str).isEmpty, .inl ⟨_,o6.of hH',rfl⟩,?_⟩
    cases hwe:(!(ws.map V.str).isEmpty) with
    |false=>
     have w0:ws=[]:=by
      cases ws with
      |nil=>rfl
      |cons _ _=>cases hwe
     have e1:BL m.1 F0 fl.1 ws=F0:=by unfold BL;rw[if_pos w0]
     have e2:Dt m.1 T0 fl=T0:=by unfold Dt;rw[hws,if_pos w0]
     rw[e1] at MZ⊢
     rw[e2] at MY⊢
     exact⟨_,_,_,rfl,pj.same s',MZ,MY⟩
    |true=>
     have w0:ws≠[]:=by
      intro z
      rw[z] at hwe
      cases hwe
     rw[if_pos rfl]
     simpa only[↓EY,↓Hk,↓Es,↓Y5]
     have szl:=T6
     have gr:G r=none:=pj.base.free hr'
     obtain⟨da,ra,pa,hT0,hNp,hN0,hx0,hxp,ho0,hop⟩:=pj
     have hrp:pa r=none:=CF fun e=>(hT0.own r e).2 hr'
     have hT:=hT0.same Ka s'
     have hN2:=s' _ _ hN0
     have hx2:=s' _ _ hx0
     have ho2:=s' _ _ ho0
     refine⟨ws.map V.str, .inl (o6.of hH'),C,dx,QX N B om,hx2,cl,n3, .ref N,lN,by decide,fun T hT'=> ?_⟩
     have sT:=d0 hT' (.tup [.int m.1, .str fl.1])
     have Xp:=W7 T0 [.inl m.1, .inr fl.1] (V.int (ws.map V.str).length)
     refine⟨N,rfl,_,Fk.t (k:=[.inl m.1, .inr fl.1]) (sT _ _ hN2) c5 (by omega),?_⟩
     have nxN:x≠N:=AO hx2 hN2 (by intro z;cases z)
     have noN:om≠N:=AO ho2 hN2 (by intro z;cases z)
     have nrN:r≠N:=AO hH' hN2 (by intro z;cases z)
     have t1:=(hT.same Ka sT).out (o:= .dT (Q3 T0 [.inl m.1, .inr fl.1] (V.int (ws.map V.str).length))) hNp (by show 2<3;decide)
     have hxM:(upd (upd H' T (.tup [.int m.1, .str fl.1])) N (.dT (Q3 T0 [.inl m.1, .inr fl.1] (V.int (ws.map V.str).length)))) x=_:=(i4 nxN).trans (sT _ _ hx2)
     have hoM:(upd (upd H' T (.tup [.int m.1, .str fl.1])) N (.dT (Q3 T0 [.inl m.1, .inr fl.1] (V.int (ws.map V.str).length)))) om=_:=(i4 noN).trans (sT _ _ ho2)
     have hrM:(upd (upd H' T (.tup [.int m.1, .str fl.1])) N (.dT (Q3 T0 [.inl m.1, .inr fl.1] (V.int (ws.map V.str).length)))) r=_:=(i4 nrN).trans (sT _ _ hH')
     have hNM:(upd (upd H' T (.tup [.int m.1, .str fl.1])) N (.dT (Q3 T0 [.inl m.1, .inr fl.1] (V.int (ws.map V.str).length)))) N=_:=c5
     have e2:Dt m.1 T0 fl=Q3 T0 [.inl m.1, .inr fl.1] (V.int (ws.map V.str).length):=by unfold Dt;rw[hws,if_neg w0,i5]
     rw[e2] at MY⊢
     generalize upd (upd H' T (.tup [.int m.1, .str fl.1])) N (.dT (Q3 T0 [.inl m.1, .inr fl.1] (V.int (ws.map V.str).length)))=M at t1 hxM hoM hrM hNM⊢
     generalize Q3 T0 [.inl m.1, .inr fl.1] (V.int (ws.map V.str).length)=T1 at hNM MY⊢
     have hsF:=Ef.at_ (f:=fl.1)
     refine⟨C,dx,QX N B om,hxM,cl,n2, .ref B,lB,B,rfl, .inl ⟨_, .inl t1.top.1⟩,fun p hp=> ?_⟩
     have sp:=d0 hp (.dK [])
     refine⟨_,sp _ _ t1.top.1, .inr fl.1,rfl,by rw[S8];have:=Ef.1;omega,fun v hv=> ?_,fun QZ=> ?_⟩
     ·rw[E4] at hv
      obtain⟨D,hD1,rfl⟩:=D3.mp hv
      rw[hD1] at hsF
      refine⟨G,B,da,ra,pa,F0,fl.1,D,(4*i+j)*1000,m.1,r,ws,rfl,t1.same Ka sp,hD1,hsF.1,hsF.2,by omega,sp _ _ hrM,LY,fun Ff AJ L' t' fr=> ?_⟩
      obtain⟨y1,y2⟩:=fr.at_ (sp _ _ hxM) gx hxp
      obtain⟨y3,y4⟩:=fr.at_ (sp _ _ hoM) gom hop
      obtain⟨y5,y6⟩:=fr.far N _ hNp (by show 2<3;decide)
      have e3:BL m.1 F0 fl.1 ws=KT.mod F0 fl.1 fun _=>putAll m.1 D (BP [] 0 ws):=by unfold BL;rw[if_neg w0];exact K5 (by rw[hD1];rfl)
      exact⟨⟨da,Ff,AJ,by rw[e3];exact t',y6,y5.trans (sp _ _ hNM),y1,y2,y3,y4⟩,MZ,MY⟩
     ·rw[E4] at QZ
      have Gi:get F0 fl.1=none:=JN.mp QZ
      have el:=X4 (kvs:=P9 da F0) (k:=(.inr fl.1:D7)) (V.ref p) (by rw[E4,Gi];rfl)
      have ta:=t1.addF (p:=p) Ka Gi hp
      have nBp:B≠p:=k9 t1.top.1 hp
      have fa:Fr G pa M (V8 pa p (some [fl.1])) (upd (upd M p (.dK [])) B (.dK (P9 da F0++[(.inr fl.1, .ref p)]))):=(Fr.new hp fun a ha=>(t1.own a ha).2).trans (Fr.own (q:=[]) (by rw[D0 nBp];exact t1.top.2) (by decide))
      rw[el]
      generalize upd (upd M p (.dK [])) B (.dK (P9 da F0++[(.inr fl.1, .ref p)]))=M2 at ta fa⊢
      have hg2:get (F0++[(fl.1,([]:Wt Str))]) fl.1=some []:=by rw[<-P4 Gi (fun _=>[]),J7]
      obtain⟨z1,z2⟩:=fa.at_ hxM gx hxp
      obtain⟨z3,z4⟩:=fa.at_ hoM gom hop
      obtain⟨z5,z6⟩:=fa.far N _ hNp (by show 2<3;decide)
      refine⟨G,B,V8 da fl.1 p,ra,V8 pa p (some [fl.1]),F0++[(fl.1,[])],fl.1,[],0,m.1,r,ws,by rw[G9],ta,hg2,l9 _,fun x hx=>(by cases hx),by omega,(fa.at_ hrM gr hrp).1,LY,fun Ff AJ L' t' fr=> ?_⟩
      obtain⟨y1,y2⟩:=fr.at_ z1 gx z2
      obtain⟨y3,y4⟩:=fr.at_ z3 gom z4
      obtain⟨y5,y6⟩:=fr.far N _ z6 (by show 2<3;decide)
      have e3:BL m.1 F0 fl.1 ws=KT.mod (F0++[(fl.1,[])]) fl.1 fun _=>putAll m.1 [] (BP [] 0 ws):=by
       unfold BL
       rw[if_neg w0,<-P4 Gi (fun _=>[]),Z3]
       exact K5 (by rw[Gi];rfl)
      exact⟨⟨V8 da fl.1 p,Ff,AJ,by rw[e3];exact t',y6,y5.trans (z5.trans hNM),y1,y2,y3,y4⟩,MZ,MY⟩
   ·rintro σ L ⟨v4,v5,v6,rfl,pj,Ef,htj⟩
    have hzl:zs.length=m.2.length:=by have:=hz.length;rwa [i5] at this
    rw[hzl,B7] at pj Ef htj
    have:=(Eh m OV).1
    have e1:=NR (F:=[]) hm
    have e2:=Xe (T:=[]) hm
    exact⟨_,_,_,_,_,rfl,by rw[e1,e2];exact pj,by rw[e1];exact Ef.mono (by omega),by rw[e2];omega⟩
  ·rintro σ L ⟨v2,v3,v4,v5,v6,rfl,pi,_⟩
   rw[De,B7] at pi
   have sb:=pi.base
   obtain⟨da,ra,pa,h1,h2,h3,h4,h5,h6,h7⟩:=pi
   exact q (nw G L) L ⟨hOk,dx,om,B,N,_,_,C6 h4 gx,C6 h6 gom,h1.fat,C6 h3 gN,FE.refl _,fun _ _=>rfl⟩ Am (fun a ha=>TQ ha) sb
def U8(ms:List Mk)(fl:Str):Wt Str:=(get (J5 [] ms) fl).getD []
def A1(ms:List Mk)(fl wd:Str):Rw:=(get (U8 ms fl) wd).getD []
def FM(C:Addr):Sp:=fun vs H Q _=>∃(x:Addr) (ms:List Mk),vs=[.ref x]/\AL C H x ms/\∀r H',j9 H H'->H r=none->H' r=some (.lst (ms.map fun m=> .int m.1))->Q (.ref r) H'
def Ob{C:Addr}{v0:Addr}{H:Hp}{Q:VK}{E:XK}:=show FM C [.ref v0] H Q E=_ by
 simpa only[FM]
 rfl
def IN(C:Addr):Sp:=fun vs H Q _=>∃(x:Addr) (ms:List Mk),vs=[.ref x]/\AL C H x ms/\∀r H',j9 H H'->H r=none->H' r=some (.lst ((RS ((J5 [] ms).map (·.1))).map V.str))->Q (.ref r) H'
def Sd{C:Addr}{v0:Addr}{H:Hp}{Q:VK}{E:XK}:=show IN C [.ref v0] H Q E=_ by
 simpa only[IN]
 rfl
def IM(C:Addr):Sp:=fun vs H Q _=>∃(x:Addr) (fl:Str) (ms:List Mk),vs=[.ref x, .str fl]/\AL C H x ms/\∀r H',j9 H H'->H r=none->H' r=some (.lst ((RS ((U8 ms fl).map (·.1))).map V.str))->Q (.ref r) H'
def Sb{C:Addr}{v0:Addr}{v1:Str}{H:Hp}{Q:VK}{E:XK}:=show IM C [.ref v0, .str v1] H Q E=_ by
 simpa only[IM]
 rfl
def Hn(C:Addr):Sp:=fun vs H Q _=>∃(x:Addr) (fl wd:Str) (ms:List Mk),vs=[.ref x, .str fl, .str wd]/\AL C H x ms/\∀r xs H',j9 H H'->H r=none->H' r=some (.lst xs)->i3 (Bs r (nw H H')) ((A1 ms fl wd).map Df) xs->Q (.ref r) H'
def Oa{C:Addr}{v0:Addr}{v1:Str}{v2:Str}{H:Hp}{Q:VK}{E:XK}:=show Hn C [.ref v0, .str v1, .str v2] H Q E=_ by
 simpa only[Hn]
 rfl
def Mu(C:Addr):Sp:=fun vs H Q _=>∃(x:Addr) (m:Int) (fl:Str) (ms:List Mk),vs=[.ref x, .int m, .str fl]/\AL C H x ms/\∀H',j9 H H'->Q (LV (BY [] ms) m fl) H'
def Yl{C:Addr}{v0:Addr}{v1:Int}{v2:Str}{H:Hp}{Q:VK}{E:XK}:=show Mu C [.ref v0, .int v1, .str v2] H Q E=_ by
 simpa only[Mu]
 rfl
theorem Z7{α:Type}{da:Str->Addr}{F:List (Str×α)}:(P9 da F).map (·.1)=(F.map (·.1)).map Sum.inr:=by
 unfold P9
 rw[K8,K8]
 rfl
theorem EL{H:Hp}{x:Int×List Int}{v:V}(h:n8 H (Df x) v):∃a b,v= .ref a/\H a=some (.tup [.int x.1, .ref b])/\H b=some (.lst (x.2.map V.int)):=by
 rw[Df,n8] at h
 obtain⟨a,us,rfl,ha,AS⟩:=h
 rw[i3] at AS
 obtain⟨y,ys,rfl,hy,AS⟩:=AS
 rw[i3] at AS
 obtain⟨y2,ys2,rfl,hy2,AS⟩:=AS
 rw[i3] at AS
 rw[n8] at hy
 rw[n8] at hy2
 obtain⟨b,xs,rfl,hb,Hv⟩:=hy2
 have key:∀{ns:List Int} {xs:List V},i3 H (ns.map DV.int) xs->xs=ns.map V.int:=by
  intro ns
  induction ns with
  |nil=>intro xs h;rw[List.map_nil,i3] at h;exact h
  |cons n ns ih=>
   intro xs h
   rw[List.map_cons,i3] at h
   obtain⟨z,zs,rfl,hz,hzs⟩:=h
   rw[n8] at hz
   rw[hz,ih hzs,List.map_cons]
 exact⟨a,b,rfl,by rw[ha,hy,AS],by rw[hb,key Hv]⟩
theorem Nf{H:Hp}{p l:Addr}{m:Int}{ps:List Int}(hp:H p=some (.tup [.int m, .ref l]))(hl:H l=some (.lst (ps.map V.int))):n8 H (Df (m,ps)) (.ref p):=by
 unfold Df
 rw[n8]
 refine⟨p,_,rfl,hp,?_⟩
 rw[i3]
 refine⟨_,_,rfl,by rw[n8],i3.one ?_⟩
 rw[n8]
 exact⟨l,_,rfl,hl,i3.ints _⟩
theorem CU{G H H':Hp}(s:j9 H H'):j9 (nw G H) (nw G H'):=fun a u h=>by
 unfold nw at h
 by_cases g:G a=none
 ·rw[if_pos g] at h;exact C6 (s _ _ h) g
 ·rw[if_neg g] at h;cases h
theorem Qdc:FnScope ["self"] ["self"] (i7 sPM):=by ac_rfl
theorem Qcf{C:Addr}(F:Fun K "makes" "Piece.makes" sPM f fd)(T:Txt mg)(cl:Cls K C)(n1:J8 K C "own_makes"):FnOk P w K mg bs0 x8 1 f fd ["self"] (FM C):=by
 refine F.ok Qdc (fun vs H Q E h=> ?_) (fun H9 A outer s H vs Q E hr h=> ?_)
 ·obtain⟨x,ms,rfl,_⟩:=h
  rfl
 obtain⟨x,ms,rfl,⟨ok,dx,om,B,N,F0,T0,h1,h2,h3,h4,fe,le⟩,q⟩:=h
 refine⟨_,(e7 (l6 (CT (lstK K) rfl T.list Vv (c4 (Y6 (i6 0) rfl) c8)))),?_⟩
 and_intros
 simpa only[↓Hk]
 exact⟨C,dx,_,h1,cl,n1, .ref om,rfl,om,rfl,_, .inl (o6.of h2),fun l hl=>q l _ (d0 hl _) hl c5⟩
theorem Qde:FnScope ["self"] ["self"] (i7 sPF):=by ac_rfl
theorem Qch{C:Addr}(F:Fun K "fields" "Piece.fields" sPF f fd)(T:Txt mg)(cl:Cls K C)(n2:J8 K C "by_field"):FnOk P w K mg bs0 x8 1 f fd ["self"] (IN C):=by
 refine F.ok Qde (fun vs H Q E h=> ?_) (fun H9 A outer s H vs Q E hr h=> ?_)
 ·obtain⟨x,ms,rfl,_⟩:=h
  rfl
 obtain⟨x,ms,rfl,⟨ok,dx,om,B,N,F0,T0,h1,h2,⟨da,ht,hf⟩,h4,fe,le⟩,q⟩:=h
 refine⟨_,(e7 (l6 (j6 (K0) rfl T.sorted (by decide+kernel) (c4 (Y6 (i6 0) rfl) c8)))),?_⟩
 and_intros
 simpa only[↓Hk]
 have hl:=(Mj ok.1).1
 exact⟨C,dx,_,h1,cl,n2, .ref B,rfl,B,rfl,_,ht,_,Z7,(by rw[fe.kf.length_eq,i5];omega),fun l ys hl h5 h6=>q l _ (d0 hl _) hl (by rw[Bw h5 h6 fe.kf.symm];exact c5)⟩
theorem Qdb:FnScope ["self","field"] ["self","field"] (i7 sPW):=by ac_rfl
theorem Qcd{C:Addr}(F:Fun K "words" "Piece.words" sPW f fd)(T:Txt mg)(cl:Cls K C)(n2:J8 K C "by_field"):FnOk P w K mg bs0 x8 1 f fd ["self","field"] (IM C):=by
 refine F.ok Qdb (fun vs H Q E h=> ?_) (fun H9 A outer s H vs Q E hr h=> ?_)
 ·obtain⟨x,fl,ms,rfl,_⟩:=h
  rfl
 obtain⟨x,fl,ms,rfl,⟨ok,dx,om,B,N,F0,T0,h1,h2,⟨da,ht,hf⟩,h4,fe,le⟩,q⟩:=h
 refine⟨_,(e7 (l6 (j6 (K0) rfl T.sorted (by decide+kernel) (c4 (Ax (T4 hr) (Y6 (i6 0) rfl) (i6 1) R7 ⟨rfl,rfl,rfl,rfl⟩) c8)))),?_⟩
 and_intros
 simpa only[↓Hk,↓Dk,↓Y5]
 refine⟨C,dx,_,h1,cl,n2, .ref B,rfl,B,rfl, .inl ⟨_, .inl ht⟩,fun p hp=> ?_⟩
 have sp:=d0 hp (.dK [])
 refine⟨_,BO.k (k:= .inr fl) (sp _ _ ht),?_⟩
 rw[E4]
 have fk:=fe.kw fl
 have hl:(((get (J5 [] ms) fl).getD []).map (·.1)).length<=1000000:=by rw[i5];have:=((Mj ok.1).at_ (f:=fl)).1;omega
 unfold U8 at q
 rw[<-fk.length_eq] at hl
 cases e:get F0 fl with
 |none=>
  rw[e] at fk
  exact⟨p,rfl,[],c5,[],rfl,by decide,fun l ys hl h5 h6=>q l _ (sp.trans (d0 hl _)) (sp.free hl) (by rw[Bw h5 h6 fk.symm];exact c5)⟩
 |some D=>
  rw[e] at fk hl
  obtain⟨ra,hd,_⟩:=hf fl D e
  exact⟨_,rfl,_,sp _ _ hd,_,Z7,hl,fun l ys hl h5 h6=>q l _ (sp.trans (d0 hl _)) (sp.free hl) (by rw[Bw h5 h6 fk.symm];exact c5)⟩
theorem Qdd:FnScope ["self","make","field"] ["self","make","field"] (i7 sPL):=by ac_rfl
theorem Qcg{C:Addr}(F:Fun K "length" "Piece.length" sPL f fd)(T:Txt mg)(cl:Cls K C)(n3:J8 K C "lengths"):FnOk P w K mg bs0 x8 1 f fd ["self","make","field"] (Mu C):=by
 refine F.ok Qdd (fun vs H Q E h=> ?_) (fun H9 A outer s H vs Q E hr h=> ?_)
 ·obtain⟨x,m,fl,ms,rfl,_⟩:=h
  rfl
 obtain⟨x,m,fl,ms,rfl,⟨ok,dx,om,B,N,F0,T0,h1,h2,h3,h4,fe,le⟩,q⟩:=h
 refine⟨_,(e7 (l6 (Ax (T4 hr) (Y6 (i6 0) rfl) (P8 (c4 (i6 1) (c4 (i6 2) c8))) j0 ⟨rfl,rfl,rfl,rfl⟩))),?_⟩
 and_intros
 simpa only[↓Hk,↓Dk]
 refine⟨C,dx,_,h1,cl,n3, .ref N,rfl,N,rfl, .inr ⟨_, .inl h4⟩,by decide,fun p hp=> ?_⟩
 have sp:=d0 hp (.tup [.int m, .str fl])
 refine⟨_, .inr ⟨_,[.inl m, .inr fl],p, .inl (sp _ _ h4),rfl,c5,rfl⟩,?_⟩
 have:=q _ sp
 rw[<-le] at this
 exact this
theorem QbV:FnScope ["self","field","word","kept"] ["self","field","word"] (i7 sPP):=by ac_rfl
def QcG(H L0:Hp)(k:Addr)(xs:List V)(r:Rw)(i:Nat)(ys:List V)(σ:St)(L:Hp):Prop:=∃v0 v1:Option V,σ=[v0,v1]/\j9 L0 L/\i3 (nw H L) ((r.take i).map Df) ys
theorem Qce{C:Addr}(F:Fun K "postings" "Piece.postings" sPP f fd)(T:Txt mg)(cl:Cls K C)(n2:J8 K C "by_field"):FnOk P w K mg bs0 x8 1 f fd ["self","field","word"] (Hn C):=by
 refine F.ok QbV (fun vs H Q E h=> ?_) (fun H9 A outer s H vs Q E hr h=> ?_)
 ·obtain⟨x,fl,wd,ms,rfl,_⟩:=h
  rfl
 obtain⟨x,fl,wd,ms,rfl,⟨ok,dx,om,B,N,F0,T0,h1,h2,⟨da,ht,hf⟩,h4,fe,le⟩,q⟩:=h
 refine⟨_,(c6 (i8 (i:=3) QbV.nd rfl (Or.inl rfl) (Ax (T4 hr) (Ax (T4 hr) (Y6 (i6 0) rfl) (i6 1) R7 ⟨rfl,rfl,rfl,rfl⟩) (i6 2) (B4 c8) ⟨rfl,rfl,rfl,rfl⟩))
  (e7 (l6 (X7 (N:=["make","places"]) (pick:=[none,none]) (NX:=["self","field","word","kept"]) (sX:=i7 sPP) (by decide+kernel) rfl rfl rfl (r9 K (i6 3))
    (fun _ _ _ _=>(LW K (n:=2) rfl (o9 (j5 (i:=0) Qcw rfl (Or.inl rfl)) (o9 (j5 (i:=1) Qcw rfl (Or.inl rfl)) P2)))) (fun _ _ _ _=>R0) (fun _ _ _ _=>(P8 (c4 (i6 0) (c4 (CT (lstK K) rfl T.list Vv (c4 (i6 1) c8)) c8)))))))),?_⟩
 and_intros
 simpa only[↓Hk,↓Dk,↓Y5]
 refine⟨C,dx,_,h1,cl,n2, .ref B,rfl,B,rfl, .inl ⟨_, .inl ht⟩,fun p hp=> ?_⟩
 have sp:=d0 hp (.dK [])
 refine⟨_,BO.k (k:= .inr fl) (sp _ _ ht),?_⟩
 rw[E4]
 suffices key:∀(L0:Hp) (k:Addr) (xs:List V),j9 H L0->L0 k=some (.lst xs)->i3 L0 ((A1 ms fl wd).map Df) xs->∀σ0,LS [none,none] (UF K 2 (Gq (BU 0) (Gq (BU 1) Qy))) Wj (Wl (HG (Wk 0) (HG (tCB (fun xs H Q=>∃p,xs=[V.ref p]/\∃x,(o6 K H p x\/AG K H p x)/\∀(l:Addr),H l=none->Q (V.ref l) (upd H l (HO.lst x))) (HG (Wk 1) Kl)) Kl))) Q σ0 (VT K k) L0 by
  have fr:=fe.row fl wd
  have er:A1 ms fl wd=(get ((get F0 fl).getD []) wd).getD []:=fr.symm
  cases e:get F0 fl with
  |none=>
   refine⟨p,rfl, .inl ⟨_, .inl c5⟩,x5 _,fun p1 hp1=>⟨_,BO.k (k:= .inr wd) (k7 c5 hp1),p1,rfl,⟨_,o6.of c5⟩,key _ p1 [] (sp.trans (d0 hp1 _)) c5 ?_ _⟩⟩
   rw[er,e]
   exact i3.nil
  |some D=>
   obtain⟨ra,hd,OT⟩:=hf fl D e
   refine⟨da fl,rfl, .inl ⟨_, .inl (sp _ _ hd)⟩,x5 _,fun p1 hp1=> ?_⟩
   have s2:=sp.trans (d0 hp1 (.lst []))
   refine⟨_,BO.k (k:= .inr wd) (s2 _ _ hd),?_⟩
   rw[E4]
   cases e2:get D wd with
   |none=>
    refine⟨p1,rfl,⟨_,o6.of c5⟩,key _ p1 [] s2 c5 ?_ _⟩
    rw[er,e]
    show i3 _ (((get D wd).getD []).map Df) _
    rw[e2]
    exact i3.nil
   |some r=>
    obtain⟨xs,g1,g2⟩:=OT wd r e2
    refine⟨_,rfl,⟨_,o6.of (s2 _ _ g1)⟩,key _ _ xs s2 (s2 _ _ g1) ?_ _⟩
    rw[er,e]
    show i3 _ (((get D wd).getD []).map Df) _
    rw[e2]
    exact i3.same s2 _ _ g2
 intro L0 k xs s0 hk hD σ0
 have hl:(A1 ms fl wd).length<=1000000:=by
  unfold A1 U8
  have h2:=((Mj ok.1).at_ (f:=fl)).2
  cases e:get ((get (J5 [] ms) fl).getD []) wd with
  |none=>exact x5 _
  |some r=>have h3:=h2 _ (G8 e);simp only[DD];simp only at h3;omega
 have De:xs.length=(A1 ms fl wd).length:=by have:=hD.length;rwa [i5] at this
 have szl:=T6
 refine Y9 xs (QcG H L0 k xs (A1 ms fl wd)) ⟨none,none,rfl,j9.refl _,i3.nil⟩ ?_ ?_ ?_
 ·rintro i ys σ L hi ⟨v0,v1,rfl,sL,hy⟩
  refine⟨o6.of (sL _ _ hk),?_⟩
  have:=hy.length
  rw[i5,I9] at this
  omega
 ·rintro i y ys σ L hy ⟨v0,v1,rfl,sL,Kb⟩
  obtain⟨dv,g1,g2⟩:=hD.get hy
  rw[u8] at g1
  obtain⟨x,hx,rfl⟩:=D3.mp g1
  obtain⟨a,b,rfl,ha,hb⟩:=EL g2
  simpa only[l8]
  refine⟨_,AG.of (sL _ _ ha),rfl,?_⟩
  simpa only[l8]
  refine⟨_, .inl (o6.of (sL _ _ hb)),fun l hl'=>⟨by decide,fun p2 hp2=> ?_⟩⟩
  have s1:=d0 hl' (.lst (x.2.map V.int))
  have s2:=s1.trans (d0 hp2 (.tup [.int x.1, .ref l]))
  refine⟨_,_,rfl,sL.trans s2,?_⟩
  rw[q9,hx,n4]
  refine(i3.same (CU s2) _ _ Kb).app (i3.one ?_)
  have sH:=s0.trans sL
  exact Nf (m:=x.1) (ps:=x.2) (C6 c5 ((sH.trans s1).free hp2)) (C6 (k7 c5 hp2) (sH.free hl'))
 ·rintro ys σ L ⟨v0,v1,rfl,sL,Kb⟩ r hr'
  rw[De,B7] at Kb
  refine q r ys _ ((s0.trans sL).trans (d0 hr' _)) ((s0.trans sL).free hr') c5 (i3.same (fun a u h=> ?_) _ _ Kb)
  have h':=Am _ _ h
  rw[CW (k9 h' hr')]
  exact CU (d0 hr' _) _ _ h
def Ks(C:Addr):Sp:=fun vs H Q _=>∃(om B N:Addr) (G:Hp) (F:Fl) (T:LT) (ms:List Mk),vs=[.ref om, .ref B, .ref N]/\H om=some (.lst (ms.map fun m=> .int m.1))/\G om=none/\j9 G H/\Rh (nw G H) B F/\Ok ms/\FE F (J5 [] ms)/\H N=some (.dT T)/\G N=none/\(∀m f,LV T m f=LV (BY [] ms) m f)/\
 ∀x M H',AL C M x ms->j9 M H'->(∀a,G a≠none->M a=none)->j9 H H'->Q (.ref x) H'
def Zw{C:Addr}{v0:Addr}{v1:Addr}{v2:Addr}{H:Hp}{Q:VK}{E:XK}:=show Ks C [.ref v0, .ref v1, .ref v2] H Q E=_ by
 simpa only[Ks]
 rfl
theorem Yp:FnScope ["makes","by_field","lengths","piece"] ["makes","by_field","lengths"] (i7 ZR):=by ac_rfl
theorem QaB{C gi:Addr}{di:FuncData}(F:Fun K "piece_of_parts" "piece_of_parts" ZR f fd)(T:Txt mg)(cl:Cls K C)(n1:J8 K C "own_makes")(n2:J8 K C "by_field")(n3:J8 K C "lengths")(mkP:L2.Mk K C gi)(mPc:mg "Piece"=some (.ref C))
  (GIn:FnOk P w K mg bs0 x8 6 gi di ["self","makes"] (Dl C))(bIn:Binds K di ["self","makes"] []):FnOk P w K mg bs0 x8 8 f fd ["makes","by_field","lengths"] (Ks C):=by
 refine F.ok Yp (fun vs H Q E h=> ?_) (fun H9 A outer s H vs Q E hr h=> ?_)
 ·obtain⟨om,B,N,G,F,T,ms,rfl,_⟩:=h
  rfl
 obtain⟨om,B,N,G,F,T0,ms,rfl,Uw,gom,sG,t,ok,fe,hN,gN,le,q⟩:=h
 refine⟨_,(c6 (i8 (i:=3) Yp.nd rfl (Or.inl rfl) (Jf mkP GIn hr rfl mPc bIn .nil j3 (c4 (B4 c8) c8)))
  (c6 (Co (i6 3) (i6 0) rfl)
  (c6 (Co (i6 3) (i6 1) rfl)
  (c6 (Co (i6 3) (i6 2) rfl)
  (e7 (l6 (i6 3))))))),?_⟩
 and_intros
 simpa only[↓Of,Dl,↓Mm,↓WA]
 refine⟨x5 _,fun r0 hr0 x dx0 hx0 hdx0 Ig=> ?_⟩
 have s0:=d0 hr0 (.lst [])
 refine⟨upd H r0 (.lst []),((j9.refl _).newer hdx0 _).newer hx0 _,hx0,dx0,c5,[],[],c5,i3.nil,Ok.nil,fun M H1 Kc sM dj s1=> ?_⟩
 obtain⟨_,dx,om',B',N',F',T',hx,_⟩:=Kc
 have hx1:=sM _ _ hx
 have sH:j9 H H1:=s0.trans s1
 have nx:H x=none:=s0.free hx0
 refine⟨C,dx,_,hx1,cl,n1,(by show 3<1000;decide),C,dx,_,c5,cl,n2,(by show 3<1000;decide),C,dx,_,c5,cl,n3,(by show 3<1000;decide),?_⟩
 rw[AN,AN]
 have s3:j9 H (upd H1 x (.ins C dx (QX N B om))):=sH.newer nx _
 have gx:G x=none:=sG.free nx
 exact q x (nw G (upd H1 x (.ins C dx (QX N B om)))) _ ⟨ok,dx,om,B,N,F,T0,C6 c5 gx,C6 (s3 _ _ Uw) gom,t.same (CU s3),C6 (s3 _ _ hN) gN,fe,le⟩ Am (fun a ha=>TQ ha) s3
def E1{κ α:Type}[DecidableEq κ](t:List (κ×List α))(k:κ):List α:=(get t k).getD []
theorem Z5{κ α:Type}[DecidableEq κ](t:List (κ×List α))(k j:κ)(g:List α->List α)(g0:Option (List α)->List α)(h:∀o,g0 o=g (o.getD [])):E1 (KT.mod t k g0) j=if j=k then g (E1 t k) else E1 t j:=by
 unfold E1
 by_cases e:j=k
 ·rw[if_pos e,e,J7,h];rfl
 ·rw[if_neg e,N4 _ _ e]
def Q4(w:Str):Int->List Str->List Int
 |_,[]=>[]
 |i,x::r=>(if x=w then [i] else [])++Q4 w (i+1) r
theorem Cp{w:Str}:∀{ws:List Str} {i p:Int},p∈Q4 w i ws->i<=p/\p<i+ws.length/\ws[(p-i).toNat]? =some w
 |[],i,p,h=>by cases h
 |x::r,i,p,h=>by
  rw[Q4,U3] at h
  rw[List.length_cons]
  rcases h with h|h
  ·split at h
   ·rename_i e
    rw[D4.mp h,e]
    refine⟨by omega,by omega,?_⟩
    rw[Int.sub_self];rfl
   ·cases h
  ·obtain⟨h1,h2,h3⟩:=Cp h
   refine⟨by omega,by omega,?_⟩
   have:(p-i).toNat=(p-(i+1)).toNat+1:=by omega
   rw[this,List.getElem?_cons_succ]
   exact h3
theorem Oy{w:Str}:∀{ws:List Str} {i:Int},(Q4 w i ws).Pairwise (· < ·)
 |[],i=>List.Pairwise.nil
 |x::r,i=>by
  rw[Q4]
  refine AD.mpr ⟨?_,Oy,fun a ha b hb=> ?_⟩
  ·split
   ·exact GZ _ _
   ·exact List.Pairwise.nil
  ·split at ha
   ·rw[D4.mp ha]
    have:=(Cp hb).1
    omega
   ·cases ha
theorem Fq{w:Str}:∀{ws:List Str} {i:Int},Q4 w i ws≠[]↔w∈ws
 |[],i=>by simp [Q4]
 |x::r,i=>by
  rw[Q4,E8]
  by_cases e:x=w
  ·rw[if_pos e];simp [e]
  ·rw[if_neg e,List.nil_append,Fq]
   exact⟨.inr,fun h=>h.resolve_left fun z=>e z.symm⟩
def pc(m:Int)(ps:List Int):Rw:=if ps=[] then [] else [(m,ps)]
theorem Ts{m:Int}:pc m []=[]:=if_pos rfl
theorem Ja{w:Str}:∀{ws:List Str} {p:Pl Str} {i:Int},E1 (BP p i ws) w=E1 p w++Q4 w i ws
 |[],p,i=>by rw[BP,Q4,List.append_nil]
 |x::ws,p,i=>by
  rw[BP,Ja,Q4,<-o5]
  congr 1
  unfold Y1
  rw[Z5 p x w (· ++[i]) _ (fun _=>rfl)]
  by_cases e:w=x
  ·rw[if_pos e,if_pos e.symm,e]
  ·rw[if_neg e,if_neg (fun z=>e z.symm),List.append_nil]
theorem Tj:∀{ws:List Str} {p:Pl Str} {i:Int},(∀x∈p,x.2≠[])->∀x∈BP p i ws,x.2≠[]
 |[],p,i,h=>h
 |w::ws,p,i,h=>Tj (ws:=ws) fun x hx=>by
  rcases An hx with e|e
  ·exact h x e
  ·rw[e];simp
theorem FV{m:Int}{w:Str}:∀{p:Pl Str} {D:Wt Str},(p.map (·.1)).Nodup->(∀x∈p,x.2≠[])->E1 (putAll m D p) w=E1 D w++pc m (E1 p w)
 |[],D,_,_=>by show E1 D w=E1 D w++pc m [];rw[pc,if_pos rfl,List.append_nil]
 |x::p,D,nd,ne=>by
  rw[List.map_cons,Y3] at nd
  show E1 (putAll m (V0 m D x) p) w=_
  rw[FV nd.2 fun y hy=>ne y (D5 _ hy)]
  unfold V0
  rw[Z5 D x.1 w (· ++[(m,x.2)]) _ (fun _=>rfl)]
  have nx:=ne x C0
  by_cases e:w=x.1
  ·have h1:E1 p w=[]:=by
    unfold E1
    cases h:get p w with
    |none=>rfl
    |some v=>exact absurd (T5.mp (by rw[e] at h;rw[h];rfl)) nd.1
   have h2:E1 (x::p) w=x.2:=by unfold E1;rw[KT.get,if_pos e.symm];rfl
   rw[if_pos e,h1,h2,pc,if_pos rfl,pc,if_neg nx,List.append_nil,e]
  ·have h2:E1 (x::p) w=E1 p w:=by unfold E1;rw[KT.get,if_neg (fun z=>e z.symm)]
   rw[if_neg e,h2]
def A4(F:Fl)(f w:Str):Rw:=E1 (E1 F f) w
theorem LN{m:Int}{F:Fl}{f g w:Str}{ws:List Str}:A4 (BL m F f ws) g w=A4 F g w++(if g=f then pc m (Q4 w 0 ws) else []):=by
 unfold BL
 split
 ·rename_i e
  rw[e]
  show _=_++(if g=f then pc m [] else [])
  rw[pc,if_pos rfl]
  split<;>rw[List.append_nil]
 ·unfold A4
  rw[Z5 F f g (fun D=>putAll m D (BP [] 0 ws)) _ (fun _=>rfl)]
  by_cases e:g=f
  ·rw[if_pos e,if_pos e,FV (CS ws [] 0 AF) (Tj fun x hx=>(by cases hx)),Ja,e]
   rfl
  ·rw[if_neg e,if_neg e,List.append_nil]
theorem Lw{m:Int}{g w:Str}:∀{d:List BN} {F:Fl},(d.map (·.1)).Nodup->A4 (BZ m F d) g w=A4 F g w++pc m (Q4 w 0 (A7 ((get d g).getD "")))
 |[],F,_=>by
  show A4 F g w=A4 F g w++pc m (Q4 w 0 (A7 ""))
  rw[Aq,Q4,pc,if_pos rfl,List.append_nil]
 |y::d,F,nd=>by
  rw[List.map_cons,Y3] at nd
  show A4 (BZ m (BL m F y.1 (A7 y.2)) d) g w=_
  rw[Lw nd.2,LN,o5]
  congr 1
  by_cases e:g=y.1
  ·have h1:get d g=none:=by
    cases h:get d g with
    |none=>rfl
    |some v=>exact absurd (T5.mp (by rw[e] at h;rw[h];rfl)) nd.1
   rw[if_pos e,h1,KT.get,if_pos e.symm]
   show _++pc m (Q4 w 0 (A7 ""))=_
   rw[Aq,Q4]
   show _++pc m []=_
   rw[Ts,List.append_nil]
   rfl
  ·rw[if_neg e,List.nil_append,KT.get,if_neg (fun z=>e z.symm)]
theorem Kj{g w:Str}:∀{ms:List Mk} {p:Int} {F:Fl},mw p ms->A4 (J5 F ms) g w=A4 F g w++ms.flatMap fun x=>pc x.1 (Q4 w 0 (Dj x g))
 |[],p,F,_=>by simp [J5]
 |x::ms,p,F,h=>by
  show A4 (J5 (BZ x.1 F x.2) ms) g w=_
  rw[Kj h.2.2,Lw (Bt h.2.1).2,o5,GR]
  rfl
theorem FU{ms:List Mk}(h:mw (-1) ms)(f w:Str):A1 ms f w=ms.flatMap fun x=>pc x.1 (Q4 w 0 (Dj x f)):=by
 have:=Kj (g:=f) (w:=w) (F:=[]) h
 exact this
theorem HY{κ α:Type}[DecidableEq κ]{t:List (κ×α)}{k:κ}{g:Option α->α}(h:(t.map (·.1)).Nodup):((KT.mod t k g).map (·.1)).Nodup:=by
 rw[Z6]
 split
 ·exact h
 ·rename_i hn
  rw[Dw]
  exact⟨h,by simp,fun a ha b hb=>by rw[D4.mp hb];intro e;rw[e] at ha;exact hn ha⟩
def DK(D:Wt Str):Prop:=(D.map (·.1)).Nodup/\∀y∈D,y.2≠[]
def FK(F:Fl):Prop:=(F.map (·.1)).Nodup/\∀x∈F,x.2≠[]/\DK x.2
theorem HS{m:Int}:∀{p:Pl Str} {D:Wt Str},DK D->DK (putAll m D p)
 |[],D,h=>h
 |x::p,D,h=>HS (p:=p) (D:=V0 m D x) ⟨HY h.1,fun y hy=>by
  rcases An hy with e|e
  ·exact h.2 y e
  ·rw[e];simp⟩
theorem Qa0{κ α:Type}[DecidableEq κ]{t:List (κ×α)}{k:κ}{g:Option α->α}:KT.mod t k g≠[]:=fun e=>by
 have:=J7 t k g
 rw[e] at this
 cases this
theorem HR{m:Int}:∀{p:Pl Str} {D:Wt Str},D≠[]\/p≠[]->putAll m D p≠[]
 |[],D,h=>h.elim id fun z=>absurd rfl z
 |x::p,D,_=>HR (p:=p) (D:=V0 m D x) (.inl Qa0)
theorem XH{m:Int}{F:Fl}{f:Str}{ws:List Str}(h:FK F):FK (BL m F f ws):=by
 unfold BL
 split
 ·exact h
 ·rename_i hw
  refine⟨HY h.1,fun x hx=> ?_⟩
  rcases An hx with e|e
  ·exact h.2 x e
  ·rw[e]
   refine⟨HR (.inr fun z=> ?_),HS ?_⟩
   ·obtain⟨w,r,rfl⟩:=JM hw
    have:=Ja (w:=w) (ws:=w::r) (p:=[]) (i:=0)
    rw[z] at this
    exact Fq.mpr C0 this.symm
   ·cases e:get F f with
    |none=>exact⟨AF,fun y hy=>(by cases hy)⟩
    |some D=>exact(h.2 _ (G8 e)).2
theorem Pc{m:Int}:∀{d:List BN} {F:Fl},FK F->FK (BZ m F d)
 |[],F,h=>h
 |y::d,F,h=>Pc (d:=d) (XH h)
theorem NQ:∀{ms:List Mk} {F:Fl},FK F->FK (J5 F ms)
 |[],F,h=>h
 |x::ms,F,h=>NQ (ms:=ms) (Pc h)
def j7(ms:List Mk):List Str:=RS ((J5 [] ms).map (·.1))
def keysOf(ms:List Mk)(f:Str):List Str:=RS ((U8 ms f).map (·.1))
theorem fk(ms:List Mk):FK (J5 [] ms):=NQ ⟨AF,fun x hx=>(by cases hx)⟩
theorem FD(ms:List Mk)(f:Str):DK (U8 ms f):=by
 unfold U8
 cases e:get (J5 [] ms) f with
 |none=>exact⟨AF,fun y hy=>(by cases hy)⟩
 |some D=>exact((fk ms).2 _ (G8 e)).2
theorem Fv(ms:List Mk)(f:Str):(keysOf ms f).Nodup:=(C3 _).nodup_iff.mpr (FD ms f).1
theorem Xj(ms:List Mk)(f:Str):(keysOf ms f).Pairwise fun a b=>a.cps.toList<b.cps.toList:=RQ (FD ms f).1
theorem Pa(ms:List Mk):(j7 ms).Pairwise fun a b=>a.cps.toList<b.cps.toList:=RQ (fk ms).1
theorem Cv{ms:List Mk}{f w:Str}:w∈keysOf ms f↔A1 ms f w≠[]:=by
 unfold keysOf A1
 rw[(C3 _).mem_iff,<-T5]
 cases e:get (U8 ms f) w with
 |none=>simp
 |some r=>simp;exact(FD ms f).2 _ (G8 e)
theorem Yy{m:Int}{ps:List Int}:pc m ps≠[]↔ps≠[]:=by
 unfold pc
 split<;>simp [*]
theorem CV{ms:List Mk}(h:mw (-1) ms){f w:Str}:w∈keysOf ms f↔∃m∈ms,w∈Dj m f:=by
 rw[Cv,FU h]
 constructor
 ·intro z
  obtain⟨q,r,e⟩:=JM z
  have hq:q∈ms.flatMap fun x=>pc x.1 (Q4 w 0 (Dj x f)):=by rw[e];exact C0
  obtain⟨m,hm,hq⟩:=GQ.mp hq
  exact⟨m,hm,Fq.mp (Yy.mp fun z=>by rw[z] at hq;cases hq)⟩
 ·rintro⟨m,hm,hw⟩ z
  have:=List.flatMap_eq_nil_iff.mp z m hm
  exact Yy.mpr (Fq.mpr hw) this
theorem Jw{ms:List Mk}(h:mw (-1) ms){f:Str}(hf:f∈j7 ms):keysOf ms f≠[]/\∃m∈ms,∃y∈m.2,y.1=f:=by
 unfold j7 at hf
 rw[(C3 _).mem_iff,<-T5] at hf
 obtain⟨D,e⟩:=GJ.mp hf
 have hD:=((fk ms).2 _ (G8 e)).1
 have hk:keysOf ms f≠[]:=fun z=>by
  unfold keysOf U8 at z
  rw[e] at z
  have:=(C3 (D.map (·.1))).length_eq
  rw[DD] at z
  rw[z,i5] at this
  exact hD (Dy this.symm)
 refine⟨hk,?_⟩
 obtain⟨w,r,e2⟩:=JM hk
 obtain⟨m,hm,hw⟩:=(CV h).mp (show w∈keysOf ms f by rw[e2];exact C0)
 refine⟨m,hm,?_⟩
 unfold Dj at hw
 cases e3:get m.2 f with
 |none=>rw[e3] at hw;change w∈A7 "" at hw;rw[Aq] at hw;cases hw
 |some t=>exact⟨_,G8 e3,rfl⟩
theorem Rv{ms:List Mk}{f:Str}(h:f∉(J5 [] ms).map (·.1)):U8 ms f=[]:=by
 unfold U8
 cases e:get (J5 [] ms) f with
 |none=>rfl
 |some D=>exact absurd (T5.mp (by rw[e];rfl)) h
theorem IJ{α:Type}(g h:α->Nat):∀l:List α,(l.map fun x=>g x+h x).sum=(l.map g).sum+(l.map h).sum
 |[]=>rfl
 |x::l=>by rw[List.map_cons,List.map_cons,List.map_cons,K9,K9,K9,IJ g h l];omega
theorem X2{α:Type}{g:α->Nat}:∀{l:List α},(∀x∈l,g x=0)->(l.map g).sum=0
 |[],_=>rfl
 |x::l,h=>by rw[List.map_cons,K9,h x C0,X2 fun y hy=>h y (D5 _ hy)]
theorem FG{α β:Type}(g:α->β->Nat)(k:List β):∀l:List α,(k.map fun y=>(l.map fun x=>g x y).sum).sum=(l.map fun x=>(k.map (g x)).sum).sum
 |[]=>X2 fun _ _=>rfl
 |x::l=>by
  rw[List.map_cons,K9,<-FG g k l,<-IJ]
  congr 1
theorem NW{w:Str}:∀{k:List Str},k.Nodup->w∈k->(k.map fun y=>(if w=y then [(0:Int)] else []).length).sum=1
 |[],_,h=>by cases h
 |y::k,nd,h=>by
  rw[Y3] at nd
  rw[List.map_cons,K9]
  by_cases e:w=y
  ·rw[if_pos e,X2 fun z hz=>by rw[if_neg fun c=>nd.1 (by rw[<-e,c];exact hz)];rfl]
   rfl
  ·rw[if_neg e,NW nd.2 ((E8.mp h).resolve_left e)]
   rfl
theorem cnt{k:List Str}(nd:k.Nodup):∀{ws:List Str} {i:Int},(∀w∈ws,w∈k)->(k.map fun w=>(Q4 w i ws).length).sum=ws.length
 |[],i,_=>X2 fun _ _=>rfl
 |x::r,i,h=>by
  have e:(k.map fun w=>(Q4 w i (x::r)).length)=k.map fun w=>(if x=w then [(0:Int)] else []).length+(Q4 w (i+1) r).length:=by
   refine Af fun w _=> ?_
   rw[Q4,l0]
   congr 1
   split<;>rfl
  rw[e,IJ,NW nd (h x C0),cnt nd fun w hw=>h w (D5 _ hw),List.length_cons]
  omega
def Cm(mk:Int)(r:Rw):Nat:=((r.filter fun q=>decide (q.1=mk)).map fun q=>q.2.length).sum
def W2(r:Rw):Nat:=(r.map fun q=>q.2.length).sum
def U7(ms:List Mk)(mk:Int)(f:Str):Nat:=(ms.map fun m=>if m.1=mk then (Dj m f).length else 0).sum
theorem FH{α β:Type}{g:β->Nat}{h:α->List β}:∀l:List α,((l.flatMap h).map g).sum=(l.map fun x=>((h x).map g).sum).sum
 |[]=>rfl
 |x::l=>by rw[GR,n4,JV,FH l,List.map_cons,K9]
theorem WB{ms:List Mk}(h:mw (-1) ms)(f w:Str):W2 (A1 ms f w)=(ms.map fun m=>(Q4 w 0 (Dj m f)).length).sum:=by
 rw[FU h,W2,FH]
 congr 1
 refine Af fun m _=> ?_
 unfold pc
 split
 ·rename_i e;rw[e];rfl
 ·simp
theorem WC{ms:List Mk}(h:mw (-1) ms)(mk:Int)(f w:Str):Cm mk (A1 ms f w)=(ms.map fun m=>if m.1=mk then (Q4 w 0 (Dj m f)).length else 0).sum:=by
 rw[FU h,Cm,List.filter_flatMap,FH]
 congr 1
 refine Af fun m _=> ?_
 unfold pc
 split
 ·rename_i e;rw[e];simp
 ·by_cases c:m.1=mk
  ·simp [c]
  ·simp [c]
theorem Mh{ms:List Mk}(h:mw (-1) ms)(f:Str):((keysOf ms f).map fun w=>W2 (A1 ms f w)).sum=IF ms f:=by
 have e:((keysOf ms f).map fun w=>W2 (A1 ms f w))=(keysOf ms f).map fun w=>(ms.map fun m=>(Q4 w 0 (Dj m f)).length).sum:=Af fun w _=>WB h f w
 rw[e,FG (fun(m:Mk) w=>(Q4 w 0 (Dj m f)).length),IF]
 congr 1
 exact Af fun m hm=>cnt (Fv ms f) fun w hw=>(CV h).mpr ⟨m,hm,hw⟩
theorem Qa2{ms:List Mk}(h:mw (-1) ms)(mk:Int)(f:Str){k:List Str}(hk:k.Perm (keysOf ms f)):(k.map fun w=>Cm mk (A1 ms f w)).sum=U7 ms mk f:=by
 have e:(k.map fun w=>Cm mk (A1 ms f w))=k.map fun w=>(ms.map fun m=>if m.1=mk then (Q4 w 0 (Dj m f)).length else 0).sum:=Af fun w _=>WC h mk f w
 rw[e,FG (fun(m:Mk) w=>if m.1=mk then (Q4 w 0 (Dj m f)).length else 0),U7]
 congr 1
 refine Af fun m hm=> ?_
 by_cases c:m.1=mk
 ·simp only[if_pos c]
  exact cnt (hk.nodup_iff.mpr (Fv ms f)) fun w hw=>hk.mem_iff.mpr ((CV h).mpr ⟨m,hm,hw⟩)
 ·simp only[if_neg c]
  exact X2 fun _ _=>rfl
theorem OG{f:Str}:∀{ms:List Mk} {x:Mk},(ms.map (·.1)).Nodup->x∈ms->U7 ms x.1 f=(Dj x f).length
 |y::ms,x,nd,hx=>by
  rw[List.map_cons,Y3] at nd
  unfold U7
  rw[List.map_cons,K9]
  rcases E8.mp hx with e|hx
  ·rw[e,if_pos rfl,X2 fun z hz=>if_neg fun c=>nd.1 (by rw[<-c];exact y9.mpr ⟨z,hz,rfl⟩)]
   omega
  ·rw[if_neg fun c=>nd.1 (by rw[c];exact y9.mpr ⟨x,hx,rfl⟩)]
   have:=OG (f:=f) nd.2 hx
   unfold U7 at this
   omega
theorem Uc{ms:List Mk}(h:mw (-1) ms)(mk:Int)(f:Str):LV (BY [] ms) mk f= .int (U7 ms mk f):=by
 have nd:=(V6 h).2
 by_cases c:mk∈ms.map (·.1)
 ·obtain⟨x,hx,rfl⟩:=y9.mp c
  rw[OG nd hx]
  obtain⟨i,hi⟩:=Bj.mp hx
  exact OH nd (Bt (OF h hi).2.1).2 hx rfl
 ·rw[Jn c]
  unfold U7
  rw[X2 fun m hm=>if_neg fun z=>c (by rw[<-z];exact y9.mpr ⟨m,hm,rfl⟩)]
  rfl
def Ah(l:List Int):List (List Int):=List.zipWith (fun a x=>nb (x-a).toNat) (0::l) l
def O7(l:List Int):List Int:=nb l.length++(Ah l).flatten
def X5(r:Rw):List (List Int):=List.zipWith (fun a x=>nb (x.1-a).toNat++O7 x.2) (0::r.map (·.1)) r
def W4(r:Rw):List Int:=nb r.length++(X5 r).flatten
def A8(z:Str):List Int:=nb z.length++z.cps.toList.map Int.ofNat
def O6(ms:List Mk)(f w:Str):List Int:=A8 w++W4 (A1 ms f w)
def E3(ms:List Mk)(f:Str):List (List Int):=ms.map fun m=>nb (U7 ms m.1 f)
def K7(ms:List Mk)(f:Str):List Int:=A8 f++(E3 ms f).flatten++nb (keysOf ms f).length++((keysOf ms f).map (O6 ms f)).flatten
def MJ(ms:List Mk):List Int:=O7 (ms.map (·.1))++nb (j7 ms).length++((j7 ms).map (K7 ms)).flatten
def la(l:List Int)(i:Nat):Int:=(l.take i).getLastD 0
theorem AQ{l:List Int}{i:Nat}{x:Int}(h:l[i]? =some x):la l (i+1)=x:=by
 unfold la
 rw[q9,h]
 simp
theorem YB:∀{l:List Int} {i:Nat},i<=l.length->(0::l)[i]? =some (la l i)
 |l,0,_=>rfl
 |l,i+1,h=>by
  have e:l[i]? =some l[i]:=u9 h
  rw[AQ e,List.getElem?_cons_succ,e]
theorem As(l:List Int):(Ah l).length=l.length:=by
 unfold Ah
 rw[Vu,List.length_cons]
 omega
theorem Ce{l:List Int}{i:Nat}{x:Int}(h:l[i]? =some x):(Ah l)[i]? =some (nb (x-la l i).toNat):=by
 have hi:i<l.length:=(D9.mp h).1
 unfold Ah
 rw[Vt,YB (Dh hi),h]
theorem Bz(r:Rw):(X5 r).length=r.length:=by
 unfold X5
 rw[Vu,List.length_cons,i5]
 omega
theorem CO{r:Rw}{i:Nat}{x:Int×List Int}(h:r[i]? =some x):(X5 r)[i]? =some (nb (x.1-la (r.map (·.1)) i).toNat++O7 x.2):=by
 have hi:i<r.length:=(D9.mp h).1
 unfold X5
 rw[Vt,YB (by rw[i5];omega),h]
theorem K3{S:List (List Int)}{i:Nat}{x:List Int}(h:S[i]? =some x):(S.take (i+1)).flatten=(S.take i).flatten++x:=by
 rw[q9,h,Vs]
 simp
theorem Bu{S:List (List Int)}{i:Nat}{x:List Int}(h:S[i]? =some x):(S.drop i).flatten=x++(S.drop (i+1)).flatten:=by
 obtain⟨hi,e⟩:=D9.mp h
 rw[AE hi,e,JW]
theorem Hj{S:List (List Int)}{i:Nat}:(S.take i).flatten.length<=S.flatten.length:=by
 have:=congrArg (fun l=>(List.flatten l).length) (Bh i S)
 simp only[Vs,l0] at this
 omega
theorem D6{S:List (List Int)}{i:Nat}{x:List Int}(h:S[i]? =some x):(S.take i).flatten.length+x.length<=S.flatten.length:=by
 have:=Hj (S:=S) (i:=i+1)
 rw[K3 h,l0] at this
 exact this
def Up(l:List Int):Prop:=(∀x∈l,0<=x)/\l.Pairwise (· < ·)
theorem Up.at_{l:List Int}{i:Nat}{x:Int}(h:Up l)(e:l[i]? =some x):0<=la l i/\la l i<=x/\(0<i->la l i<x):=by
 cases i with
 |zero=>exact⟨Int.le_refl _,h.1 x (E7 e),fun z=>absurd z (Di _)⟩
 |succ j=>
  obtain⟨hj,ex⟩:=D9.mp e
  have ej:l[j]? =some l[j]:=u9 (by omega)
  rw[AQ ej]
  have:l[j]<x:=by
   rw[<-ex]
   exact GY.mp h.2 j (j+1) (by omega) hj (by omega)
  exact⟨h.1 _ (BK _),by omega,fun _=>this⟩
def XJ(r:Rw):Prop:=Up (r.map (·.1))/\∀q∈r,q.2≠[]/\Up q.2
theorem Bo{ms:List Mk}(h:mw (-1) ms)(f w:Str):XJ (A1 ms f w)/\∀q∈A1 ms f w,∃m∈ms,m.1=q.1/\q.2=Q4 w 0 (Dj m f):=by
 have al:∀q∈A1 ms f w,∃m∈ms,m.1=q.1/\q.2=Q4 w 0 (Dj m f)/\q.2≠[]:=fun q hq=>by
  rw[FU h] at hq
  obtain⟨m,hm,hq⟩:=GQ.mp hq
  unfold pc at hq
  split at hq
  ·cases hq
  ·rename_i ne
   rw[D4.mp hq]
   exact⟨m,hm,rfl,rfl,ne⟩
 have ri:=(V6 h).1
 obtain⟨M,hM⟩:=Kk (F:=[]) h fun y hy=>(by cases hy)
 have up:((A1 ms f w).map (·.1)).Pairwise (· < ·):=by
  unfold A1 U8
  cases e:get (J5 [] ms) f with
  |none=>exact List.Pairwise.nil
  |some D=>
   rw[DD]
   cases e2:get D w with
   |none=>exact List.Pairwise.nil
   |some r=>exact(hM _ (G8 e) _ (G8 e2)).1
 refine⟨⟨⟨fun x hx=> ?_,up⟩,fun q hq=> ?_⟩,fun q hq=>let ⟨m,h1,h2,h3,_⟩:=al q hq;⟨m,h1,h2,h3⟩⟩
 ·obtain⟨q,hq,rfl⟩:=y9.mp hx
  obtain⟨m,hm,e,_⟩:=al q hq
  have:=ri m hm
  omega
 ·obtain⟨m,hm,_,e,ne⟩:=al q hq
  exact⟨ne,fun x hx=>(Cp (by rw[e] at hx;exact hx)).1,by rw[e];exact Oy⟩
theorem Lf{ms:List Mk}(h:mw (-1) ms):Up (ms.map (·.1)):=by
 refine⟨fun x hx=> ?_,?_⟩
 ·obtain⟨m,hm,rfl⟩:=y9.mp hx
  have:=(V6 h).1 m hm
  omega
 ·have:∀{ms:List Mk} {p:Int},mw p ms->(ms.map (·.1)).Pairwise (· < ·):=by
   intro ms
   induction ms with
   |nil=>intro p _;exact List.Pairwise.nil
   |cons x r ih=>
    intro p h
    rw[List.map_cons,DB]
    refine⟨fun y hy=> ?_,ih h.2.2⟩
    obtain⟨m,hm,rfl⟩:=y9.mp hy
    exact(V6 h.2.2).1 m hm
  exact this h
def NK(c:Nat):Bool:=decide (97<=c/\c<=122)||decide (48<=c/\c<=57)
def Ht(z:Str):Bool:=decide (0<z.length)&&z.cps.toList.all NK
theorem ZF{c:Nat}(h:ws c=true):NK (sm c)=true:=by
 unfold ws at h
 unfold NK sm
 simp at h⊢
 split<;>omega
theorem HM(t:List Nat):∀n,(∀c∈(scan t n).2,NK c=true)/\∀x∈(scan t n).1,x.1≠[]/\x.1.length<=n/\∀c∈x.1,NK c=true
 |0=>⟨fun c hc=>(by cases hc),fun x hx=>(by cases hx)⟩
 |n+1=>by
  obtain⟨h1,h2⟩:=HM t n
  have h3:=AY t n
  have h2':∀x∈(scan t n).1,x.1≠[]/\x.1.length<=n+1/\∀c∈x.1,NK c=true:=fun x hx=>⟨(h2 x hx).1,QS (h2 x hx).2.1,(h2 x hx).2.2⟩
  rw[scan]
  by_cases hw:Py t[n]? =true
  ·cases e:t[n]? with
   |none=>rw[e] at hw;cases hw
   |some c=>
    rw[e] at hw
    rw[Cd hw]
    refine⟨fun d hd=> ?_,h2'⟩
    rcases U3.mp hd with hd|hd
    ·exact h1 d hd
    ·rw[D4.mp hd];exact ZF hw
  ·rw[Ar (by simpa using hw)]
   split
   ·exact⟨h1,h2'⟩
   ·rename_i ne
    refine⟨fun c hc=>(by cases hc),fun x hx=> ?_⟩
    rcases U3.mp hx with hx|hx
    ·exact h2' x hx
    ·rw[D4.mp hx]
     exact⟨ne,by show (scan t n).2.length<=n+1;omega,h1⟩
theorem PB{z w:Str}(h:w∈A7 z):Ht w=true/\w.length<=z.length+1:=by
 unfold A7 at h
 obtain⟨x,hx,rfl⟩:=y9.mp h
 obtain⟨h1,h2,h3⟩:=(HM z.cps.toList (z.cps.toList.length+1)).2 x hx
 have e:(⟨x.1.toArray⟩:Str).cps.toList=x.1:=rfl
 have el:(⟨x.1.toArray⟩:Str).length=x.1.length:=by rw[<-P7,e]
 refine⟨?_,by rw[el,<-P7];exact h2⟩
 unfold Ht
 rw[el,e,Q0]
 exact⟨R8 (JL.mpr h1),GF.mpr h3⟩
theorem Ee{ms:List Mk}(h:Ok ms){f w:Str}(hw:w∈keysOf ms f):Ht w=true/\w.length<=901:=by
 obtain⟨m,hm,hw⟩:=(CV h.2.1).mp hw
 obtain⟨h1,h2⟩:=PB hw
 refine⟨h1,?_⟩
 cases e:get m.2 f with
 |none=>unfold Dj at hw;rw[e] at hw;change w∈A7 "" at hw;rw[Aq] at hw;cases hw
 |some t=>
  rw[e] at h2
  have:=((h.1.2 m hm).2 _ (G8 e)).2.1
  simp only[DD] at h2
  simp only at this
  omega
theorem QaY{ms:List Mk}{p:Int}(h:mw p ms){m:Mk}(hm:m∈ms):dw "" 0 m.2=none:=by
 obtain⟨i,hi⟩:=Bj.mp hm
 exact(OF h hi).2.1
theorem YO:∀{d:List BN} {p:Str} {j:Nat},dw p j d=none->∀y∈d,Az y.1=true
 |x::r,p,j,h,y,hy=>by
  rw[dw] at h
  by_cases c:Fi p x.1=true
  ·rw[if_pos c] at h;cases h
  ·rw[if_neg c] at h
   rcases E8.mp hy with e|hy
   ·unfold Fi at c
    rw[Bool.not_eq_true,Vw] at c
    rw[e]
    simpa using c.1
   ·exact YO h y hy
theorem Cz{ms:List Mk}(h:mw (-1) ms){f:Str}(hf:f∈j7 ms):Az f=true:=by
 obtain⟨_,m,hm,y,hy,rfl⟩:=Jw h hf
 exact YO (QaY h hm) y hy
theorem Cy{ms:List Mk}(h:Ok ms):(j7 ms).length<=4:=by
 obtain⟨nm,h1,h2⟩:=h.2.2.2.2
 have key:∀{k l:List Str},k.Nodup->(∀x∈k,x∈l)->k.length<=l.length:=by
  intro k
  induction k with
  |nil=>intro l _ _;exact x5 _
  |cons x k ih=>
   intro l nd hs
   rw[Y3] at nd
   have hx:=hs x C0
   have:=ih (l:=l.erase x) nd.2 fun y hy=>(List.mem_erase_of_ne (fun e=>nd.1 (by rw[<-e];exact hy))).mpr (hs y (D5 _ hy))
   rw[List.length_erase_of_mem hx] at this
   have:=List.length_pos_of_mem hx
   rw[List.length_cons]
   omega
 refine Ad (key ((C3 _).nodup_iff.mpr (fk ms).1) fun f hf=> ?_) h1
 obtain⟨_,m,hm,y,hy,rfl⟩:=Jw h.2.1 hf
 exact(h2 m hm y hy).1
theorem QY{n:Nat}(h:n<=1000000):(nb n).length<=3:=TX 2 n (LI h (by decide))
theorem Gs{S:List (List Int)}{b:Nat}:(∀x∈S,x.length<=b)->S.flatten.length<=b*S.length:=by
 induction S with
 |nil=>intro _;exact x5 _
 |cons x S ih=>
  intro h
  have h1:=h x C0
  have h2:=ih fun y hy=>h y (D5 _ hy)
  rw[JW,l0,List.length_cons,Nat.mul_succ]
  omega
theorem PQ{l:List Int}(h:Up l)(hb:∀x∈l,x<=1000000):(Ah l).flatten.length<=3*l.length:=by
 refine Ad (Gs (b:=3) fun s hs=> ?_) (by rw[As];exact l9 _)
 obtain⟨i,hi⟩:=Bj.mp hs
 have il:i<l.length:=by have:=(D9.mp hi).1;rwa [As] at this
 have e:l[i]? =some l[i]:=u9 il
 rw[Ce e] at hi
 cases hi
 have:=h.at_ e
 have:=hb _ (BK il)
 exact QY (by omega)
theorem ME{l:List Int}(h:Up l)(hb:∀x∈l,x<=1000000)(hl:l.length<=1000000):(O7 l).length<=3+3*l.length:=by
 unfold O7
 rw[l0]
 have:=PQ h hb
 have:=QY hl
 omega
theorem RB{z:Str}(h:z.length<=1000000):(A8 z).length<=3+z.length:=by
 unfold A8
 rw[l0,i5,P7]
 have:=QY h
 omega
theorem Mo{α:Type}{g k:α->Nat}:∀{l:List α},(∀x∈l,g x<=k x)->(l.map g).sum<=(l.map k).sum
 |[],_=>l9 _
 |x::l,h=>by
  rw[List.map_cons,List.map_cons,K9,K9]
  have:=h x C0
  have:=Mo (l:=l) fun y hy=>h y (D5 _ hy)
  omega
theorem NZ{α:Type}{g:α->Nat}:∀{l:List α} {x:α},x∈l->g x<=(l.map g).sum
 |y::l,x,h=>by
  rw[List.map_cons,K9]
  rcases E8.mp h with e|h
  ·rw[e];omega
  ·have:=NZ (g:=g) h;omega
theorem NV{α:Type}{g:α->Nat}:∀{l:List α},(∀x∈l,1<=g x)->l.length<=(l.map g).sum
 |[],_=>l9 _
 |x::l,h=>by
  rw[List.map_cons,K9,List.length_cons]
  have:=h x C0
  have:=NV (l:=l) fun y hy=>h y (D5 _ hy)
  omega
theorem NY{α:Type}(c:Nat)(g:α->Nat):∀l:List α,(l.map fun x=>c*g x).sum=c*(l.map g).sum
 |[]=>rfl
 |x::l=>by rw[List.map_cons,List.map_cons,K9,K9,NY c g l,Nat.mul_add]
theorem Lu:∀S:List (List Int),S.flatten.length=(S.map List.length).sum
 |[]=>rfl
 |x::S=>by rw[JW,l0,Lu S,List.map_cons,K9]
theorem Tt{r:Rw}(h:XJ r)(hm:∀q∈r,q.1<=1000000/\q.2.length<=1000000/\∀x∈q.2,x<=1000000)(hl:r.length<=1000000):(W4 r).length<=3+9*W2 r:=by
 unfold W4
 rw[l0]
 have h3:=QY hl
 have key:(X5 r).flatten.length<=9*W2 r:=by
  have e:∀{k:Nat},k<=r.length->((X5 r).take k).flatten.length<=9*W2 (r.take k):=by
   intro k
   induction k with
   |zero=>intro _;exact x5 _
   |succ k ih=>
    intro hk
    have er:r[k]? =some r[k]:=u9 hk
    have ha:=h.1.at_ (show (r.map (·.1))[k]? =some r[k].1 by rw[u8,er];rfl)
    have hq:=BK hk
    obtain⟨g1,g2,g3⟩:=hm _ hq
    have g4:=ME (h.2 _ hq).2 g3 g2
    have g5:=JL.mpr (h.2 _ hq).1
    have g6:=QY (n:=(r[k].1 -la (r.map (·.1)) k).toNat) (by omega)
    rw[K3 (CO er),l0,l0,q9,er]
    have ih':=ih (by omega)
    unfold W2 at ih'⊢
    rw[n4,JV]
    simp only[VO,List.map_cons,List.map_nil,K9,List.sum_nil]
    omega
  have:=e (l9 _)
  rwa [B7,Y0 (by rw[Bz];exact l9 _)] at this
 omega
theorem DX{ms:List Mk}(h:Ok ms)(f w:Str):(A1 ms f w).length<=200/\∀q∈A1 ms f w,q.1<=16384/\q.2.length<=1000/\∀x∈q.2,x<=1000:=by
 obtain⟨h1,h2⟩:=Bo h.2.1 f w
 refine⟨?_,fun q hq=> ?_⟩
 ·have key:(A1 ms f w).length<=ms.length:=by
   rw[FU h.2.1]
   have:∀l:List Mk,(l.flatMap fun x=>pc x.1 (Q4 w 0 (Dj x f))).length<=l.length:=by
    intro l
    induction l with
    |nil=>exact l9 _
    |cons x l ih=>
     rw[GR,l0,List.length_cons]
     have:(pc x.1 (Q4 w 0 (Dj x f))).length<=1:=by unfold pc;split<;>simp
     omega
   exact this ms
  have:=h.1.1
  omega
 ·obtain⟨m,hm,e1,e2⟩:=h2 q hq
  have hw:(Dj m f).length<=1000:=by
   unfold Dj
   refine Au ?_
   cases e:get m.2 f with
   |none=>exact x5 _
   |some t=>exact((h.1.2 m hm).2 _ (G8 e)).2.1
  refine⟨by have:=h.2.2.1 m hm;omega,?_,fun x hx=> ?_⟩
  ·have l2:∀(ws:List Str) (i:Int),(Q4 w i ws).length<=ws.length:=by
    intro ws
    induction ws with
    |nil=>intro i;exact l9 _
    |cons x r ih=>
     intro i
     rw[Q4,l0,List.length_cons]
     have:=ih (i+1)
     split<;>simp<;>omega
   rw[e2]
   exact Ad (l2 _ _) hw
  ·rw[e2] at hx
   have:=Cp hx
   omega
theorem MS{ms:List Mk}(h:Ok ms)(mk:Int)(f:Str):U7 ms mk f<=3000:=by
 refine Ad ?_ (h.2.2.2.1 f)
 exact Mo fun m _=>by split<;>omega
theorem Li{ms:List Mk}(h:Ok ms){f:Str}:∀w∈keysOf ms f,1<=W2 (A1 ms f w):=fun w hw=>by
 obtain⟨q,r,e⟩:=JM (Cv.mp hw)
 have hq:q∈A1 ms f w:=by rw[e];exact C0
 have:=JL.mpr ((Bo h.2.1 f w).1.2 q hq).1
 have:=NZ (g:=fun q:Int×List Int=>q.2.length) hq
 unfold W2
 omega
theorem Cw{ms:List Mk}(h:Ok ms)(f:Str):(keysOf ms f).length<=3000:=by
 have:=NV (Li h (f:=f))
 rw[Mh h.2.1] at this
 have:=h.2.2.2.1 f
 omega
theorem UL{ms:List Mk}(h:Ok ms){f:Str}(hf:f∈j7 ms):(K7 ms f).length<=3000000:=by
 have h1:f.length<=12:=by
  have:=Cz h.2.1 hf
  unfold Az at this
  rw[Q0] at this
  exact(A2 this.1).2
 have h2:=RB (z:=f) (by omega)
 have h3:(E3 ms f).flatten.length<=3*ms.length:=by
  have:=Gs (S:=E3 ms f) (b:=3) fun x hx=>by
   obtain⟨m,_,rfl⟩:=y9.mp hx
   exact QY (by have:=MS h m.1 f;omega)
  rwa [E3,i5] at this
 have h5:=Li h (f:=f)
 have h4:=Cw h f
 have h6:((keysOf ms f).map (O6 ms f)).flatten.length<=920*3000:=by
  rw[Lu,K8]
  refine Ad (Mo (k:=fun w=>920*W2 (A1 ms f w)) fun w hw=> ?_) ?_
  ·obtain⟨g1,g2⟩:=DX h f w
   have g3:=Tt (Bo h.2.1 f w).1 (fun q hq=>⟨by have:=(g2 q hq).1;omega,by have:=(g2 q hq).2.1;omega,fun x hx=>by have:=(g2 q hq).2.2 x hx;omega⟩) (by omega)
   have g4:=(Ee h hw).2
   have g5:=RB (z:=w) (by omega)
   have g6:=h5 w hw
   show (O6 ms f w).length<=_
   unfold O6
   rw[l0]
   omega
  ·rw[NY,Mh h.2.1]
   exact Nat.mul_le_mul_left _ (h.2.2.2.1 f)
 have h7:=QY (n:=(keysOf ms f).length) (by omega)
 have h8:=h.1.1
 unfold K7
 rw[l0,l0,l0]
 omega
theorem Jg{ms:List Mk}(h:Ok ms):(MJ ms).length<=16000000:=by
 have h0:=h.1.1
 have h1:=ME (Lf h.2.1) (fun x hx=>by
  obtain⟨m,hm,rfl⟩:=y9.mp hx
  have:=h.2.2.1 m hm
  omega) (by rw[i5];omega)
 rw[i5] at h1
 have h2:=Cy h
 have h3:=QY (n:=(j7 ms).length) (by omega)
 have h4:((j7 ms).map (K7 ms)).flatten.length<=3000000*(j7 ms).length:=by
  have:=Gs (S:=(j7 ms).map (K7 ms)) (b:=3000000) fun x hx=>by
   obtain⟨f,hf,rfl⟩:=y9.mp hx
   exact UL h hf
  rwa [i5] at this
 unfold MJ
 rw[l0,l0]
 omega
theorem AX{n:Nat}(h:n<=16000000):n<=sizeLine:=by
 have:=T6
 omega
theorem Ag{n:Nat}(h:n<=16000000):n<sizeLine:=by
 have:=T6
 omega
def X3:Sp:=fun vs H Q _=>∃n:Nat,vs=[.int n]/\n<=1000000/\∀p,H p=none->Q (.ref p) (upd H p (.lst ((nb n).map V.int)))
def Z4{v0:Int}{H:Hp}{Q:VK}{E:XK}:=show X3 [.int v0] H Q E=_ by
 simpa only[X3]
 rfl
def Hc(xs:List Int):Prop:=Up xs/\(∀x∈xs,x<=1000000)/\xs.length<=1000000
theorem Hc.len{xs:List Int}(h:Hc xs):(O7 xs).length<=4000000:=by
 have:=ME h.1 h.2.1 h.2.2
 have:=h.2.2
 omega
def Pu(r:Rw):Prop:=XJ r/\(∀q∈r,q.1<=1000000/\Hc q.2)/\r.length<=1000000/\(W4 r).length<=16000000
def Ms:Sp:=fun vs H Q _=>∃(l:Addr) (xs:List Int),vs=[.ref l]/\H l=some (.lst (xs.map V.int))/\Hc xs/\∀p H',j9 H H'->H p=none->H' p=some (.lst ((O7 xs).map V.int))->Q (.ref p) H'
def Yj{v0:Addr}{H:Hp}{Q:VK}{E:XK}:=show Ms [.ref v0] H Q E=_ by
 simpa only[Ms]
 rfl
def Kt:Sp:=fun vs H Q _=>∃(l:Addr) (ys:List V) (r:Rw),vs=[.ref l]/\H l=some (.lst ys)/\i3 H (r.map Df) ys/\Pu r/\∀p H',j9 H H'->H p=none->H' p=some (.lst ((W4 r).map V.int))->Q (.ref p) H'
def Yk{v0:Addr}{H:Hp}{Q:VK}{E:XK}:=show Kt [.ref v0] H Q E=_ by
 simpa only[Kt]
 rfl
def PR:Sp:=fun vs H Q _=>∃z:Str,vs=[.str z]/\z.length<=1000/\∀p H',j9 H H'->H p=none->H' p=some (.lst ((A8 z).map V.int))->Q (.ref p) H'
def Yi{v0:Str}{H:Hp}{Q:VK}{E:XK}:=show PR [.str v0] H Q E=_ by
 simpa only[PR]
 rfl
def Sn(C:Addr):Sp:=fun vs H Q _=>∃(x:Addr) (fl:Str) (ms:List Mk),vs=[.ref x, .str fl]/\AL C H x ms/\fl∈j7 ms/\∀p H',j9 H H'->H p=none->H' p=some (.lst ((K7 ms fl).map V.int))->Q (.ref p) H'
def QbR{C:Addr}{v0:Addr}{v1:Str}{H:Hp}{Q:VK}{E:XK}:=show Sn C [.ref v0, .str v1] H Q E=_ by
 simpa only[Sn]
 rfl
def HK(C:Addr):Sp:=fun vs H Q _=>∃(x:Addr) (ms:List Mk),vs=[.ref x]/\AL C H x ms/\∀p H',j9 H H'->H p=none->H' p=some (.lst ((MJ ms).map V.int))->Q (.ref p) H'
def Sa{C:Addr}{v0:Addr}{H:Hp}{Q:VK}{E:XK}:=show HK C [.ref v0] H Q E=_ by
 simpa only[HK]
 rfl
theorem AR{ns:List Int}{i:Nat}{y:V}(h:(ns.map V.int)[i]? =some y):∃n,ns[i]? =some n/\y= .int n:=by
 rw[u8] at h
 obtain⟨n,h1,rfl⟩:=D3.mp h
 exact⟨n,h1,rfl⟩
theorem IX{ms:List Mk}(h:Ok ms)(f w:Str):Pu (A1 ms f w):=by
 obtain⟨g1,g2⟩:=DX h f w
 have hg:=(Bo h.2.1 f w).1
 have num:∀q∈A1 ms f w,q.1<=1000000/\Hc q.2:=fun q hq=>by
  obtain⟨a,b,c⟩:=g2 q hq
  exact⟨by omega,(hg.2 q hq).2,fun x hx=>by have:=c x hx;omega,by omega⟩
 refine⟨hg,num,by omega,?_⟩
 have:=Tt hg (fun q hq=>⟨(num q hq).1,(num q hq).2.2.2,(num q hq).2.2.1⟩) (by omega)
 have t:W2 (A1 ms f w)<=1000*(A1 ms f w).length:=by
  unfold W2
  have:∀l:Rw,(∀q∈l,q.2.length<=1000)->(l.map fun q=>q.2.length).sum<=1000*l.length:=by
   intro l
   induction l with
   |nil=>intro _;exact x5 _
   |cons q l ih=>
    intro hl
    have h1:=hl q C0
    have h2:=ih fun y hy=>hl y (D5 _ hy)
    rw[List.map_cons,K9,List.length_cons]
    omega
  exact this _ fun q hq=>(g2 q hq).2.1
 omega
theorem ED{ms:List Mk}(h:Ok ms):Hc (ms.map (·.1)):=⟨Lf h.2.1,fun x hx=>by
  obtain⟨m,hm,rfl⟩:=y9.mp hx
  have:=h.2.2.1 m hm
  omega,by rw[i5];have:=h.1.1;omega⟩
theorem Wx:FnScope ["number","row","rest"] ["number"] (i7 sNb):=by ac_rfl
def wNb(H:Hp)(n:Nat)(p:Addr)(m:Nat)(σ:St)(L:Hp):Prop:=∃(r:Nat) (ms:List Int),m=r/\σ=[some (.int n),some (.ref p),some (.int r)]/\L=upd H p (.lst (ms.map V.int))/\ms++nb r=nb n
theorem Qco(F:Fun K "number_bytes" "number_bytes" sNb f fd)(T:Txt mg):FnOk P w K mg bs0 x8 1 f fd ["number"] X3:=by
 refine F.ok Wx (fun vs H Q E h=> ?_) (fun H9 A outer s H vs Q E hr h=> ?_)
 ·obtain⟨n,rfl,_⟩:=h
  rfl
 obtain⟨n,rfl,hn,q⟩:=h
 obtain⟨tP,hP⟩:=T.part
 refine⟨_,(c6 (i8 (i:=1) Wx.nd rfl (Or.inl rfl) (B4 c8))
  (c6 (i8 (i:=2) Wx.nd rfl (Or.inl rfl) (i6 0))
  (c6 (V5 o8 (o4 KQ (i6 2) (U5 rfl hP) (q5 _))
   (c6 (q0 (Ca K B6 N0 M8 y8 (i6 1) (c4 (k8 K6 (k8 E9 (i6 2) (U5 rfl hP)) (U5 rfl hP)) c8)))
  (e7 (i8 (i:=2) Wx.nd rfl (Or.inl rfl) (k8 X8 (i6 2) (U5 rfl hP))))))
  (c6 (q0 (Ca K B6 N0 M8 y8 (i6 1) (c4 (i6 2) c8)))
  (e7 (l6 (i6 1))))))),?_⟩
 and_intros
 simpa only[l8]
 have h3:=QY hn
 refine⟨by decide,fun p hp=>⟨wNb H n p,⟨n,n,[],rfl,rfl,rfl,rfl⟩,?_⟩⟩
 rintro m σ L ⟨r,ms,rfl,rfl,rfl,e⟩
 have hl:ms.length<=3:=by
  rw[<-e,l0] at h3
  omega
 simpa only[l8]
 refine O3 (fun c=> ?_) (fun c=> ?_)
 ·have c':128<=m:=by have:=A2 c;omega
  refine⟨fun σ' H'=>∃m',m'<m/\wNb H n p m' σ' H',fun _ _ h=>h,?_⟩
  refine⟨.inl ⟨rfl,_,o6.of c5⟩,by decide,_,c5,Ag (by rw[i5];omega),⟨by decide,by decide⟩,?_⟩
  refine⟨m/128,by omega,m/128,ms++[((m % 128+128:Nat):Int)],rfl,?_,?_,?_⟩
  ·simp
  ·rw[AN,n4]
   congr 3
  ·rw[<-e,OE c',o5]
   rfl
 ·have c':m<128:=by simp at c;omega
  refine⟨.inl ⟨rfl,_,o6.of c5⟩,_,c5,Ag (by rw[i5];omega),?_⟩
  rw[AN]
  rw[KZ c'] at e
  rw[show ms.map V.int++[V.int (m:Int)]=(nb n).map V.int by rw[<-e,n4];rfl]
  exact q p hp
theorem SA:FnScope ["numbers","row","ahead","number"] ["numbers"] (i7 sRb):=by ac_rfl
def QcE(l p:Addr)(xs:List Int)(H:Hp)(i:Nat)(σ:St)(L:Hp):Prop:=∃v3:Option V,σ=[some (.ref l),some (.ref p),some (.int (la xs i)),v3]/\j9 H L/\L p=some (.lst ((nb xs.length++((Ah xs).take i).flatten).map V.int))
theorem Qcc{g:Addr}{gd:FuncData}(F:Fun K "rising_bytes" "rising_bytes" sRb f fd)(T:Txt mg)(GNb:FnOk P w K mg bs0 x8 1 g gd ["number"] X3)(bNb:Binds K gd ["number"] [])(kNb:PySem.W.keepIn K (.ref g)=true)(mNb:mg "number_bytes"=some (.ref g)):FnOk P w K mg bs0 x8 2 f fd ["numbers"] Ms:=by
 refine F.ok SA (fun vs H Q E h=> ?_) (fun H9 A outer s H vs Q E hr h=> ?_)
 ·obtain⟨l,xs,rfl,_⟩:=h
  rfl
 obtain⟨l,xs,rfl,hl,hN,q⟩:=h
 have E2:=hN.len
 unfold O7 at E2
 rw[l0] at E2
 refine⟨_,(c6 (i8 (i:=1) SA.nd rfl (Or.inl rfl) (i9 GNb hr rfl mNb kNb bNb .nil j3 (c4 (j6 (Ba K) rfl T.len A9 (c4 (i6 0) c8)) c8)))
  (c6 (i8 (i:=2) SA.nd rfl (Or.inl rfl) j0)
  (c6 (x9 o8 rfl (r9 K (i6 0)) (j5 (i:=3) SA.nd rfl (Or.inl rfl))
   (c6 (q0 (Ca K B6 Bg Bf R9 (i6 1) (c4 (i9 GNb hr rfl mNb kNb bNb .nil j3 (c4 (k8 Cs (i6 3) (i6 2)) c8)) c8)))
  (e7 (i8 (i:=2) SA.nd rfl (Or.inl rfl) (i6 3)))))
  (e7 (l6 (i6 1)))))),?_⟩
 and_intros
 simpa only[↓Z4,X3]
 have hlz:(xs.map V.int).length=xs.length:=i5 _
 refine⟨_, .inl (o6.of hl),xs.length,by rw[hlz],hN.2.2,fun p hp=>⟨⟨_,o6.of (k7 hl hp)⟩,?_⟩⟩
 refine w6 (xs.map V.int) (QcE l p xs H) ⟨none,rfl,d0 hp _,by rw[c5,M6];simp⟩ ?_ ?_ ?_
 ·rintro i σ L hi ⟨v3,rfl,sL,hp'⟩
  exact o6.of (sL _ _ hl)
 ·rintro i y σ L hy ⟨v3,rfl,sL,hp'⟩
  obtain⟨x,hx,rfl⟩:=AR hy
  have Lp:=hN.1.at_ hx
  have hxb:=hN.2.1 x (E7 hx)
  have Gj:=Ce hx
  have Bc:=D6 Gj
  simpa only[↓Z4,X3,↓Ak]
  refine⟨.inl ⟨rfl,_,o6.of hp'⟩,(x-la xs i).toNat,by omega,by omega,fun t ht=>⟨_,k7 hp' ht,_,c5,AX ?_,some (.int x),?_,(sL.trans (d0 ht _)).newer hp _,?_⟩⟩
  ·rw[i5,i5,l0]
   omega
  ·rw[AQ hx]
  ·rw[c5,K3 Gj,<-n4,o5]
 ·rintro σ L ⟨v3,rfl,sL,hp'⟩
  simpa only[l8]
  rw[hlz,Y0 (by rw[As];exact l9 _)] at hp'
  exact q p L sL hp hp'
theorem PY:FnScope ["postings","row","ahead","make","places"] ["postings"] (i7 sPb):=by ac_rfl
def QcF(l p:Addr)(r:Rw)(H:Hp)(i:Nat)(σ:St)(L:Hp):Prop:=∃v3 v4:Option V,σ=[some (.ref l),some (.ref p),some (.int (la (r.map (·.1)) i)),v3,v4]/\j9 H L/\L p=some (.lst ((nb r.length++((X5 r).take i).flatten).map V.int))
theorem Qci{g g2:Addr}{gd gd2:FuncData}(F:Fun K "postings_bytes" "postings_bytes" sPb f fd)(T:Txt mg)(GNb:FnOk P w K mg bs0 x8 1 g gd ["number"] X3)(bNb:Binds K gd ["number"] [])(kNb:PySem.W.keepIn K (.ref g)=true)(mNb:mg "number_bytes"=some (.ref g))
  (GRb:FnOk P w K mg bs0 x8 2 g2 gd2 ["numbers"] Ms)(bRb:Binds K gd2 ["numbers"] [])(kRb:PySem.W.keepIn K (.ref g2)=true)(mRb:mg "rising_bytes"=some (.ref g2)):FnOk P w K mg bs0 x8 3 f fd ["postings"] Kt:=by
 refine F.ok PY (fun vs H Q E h=> ?_) (fun H9 A outer s H vs Q E hr h=> ?_)
 ·obtain⟨l,ys,r,rfl,_⟩:=h
  rfl
 obtain⟨l,ys,r,rfl,hl,hD,⟨hR,hq,hrl,E2⟩,q⟩:=h
 have hr1:Room 1 _:=hr.mono (by decide)
 have LX:ys.length=r.length:=by have:=hD.length;rwa [i5] at this
 unfold W4 at E2
 rw[l0] at E2
 refine⟨_,(c6 (i8 (i:=1) PY.nd rfl (Or.inl rfl) (i9 GNb hr1 rfl mNb kNb bNb .nil j3 (c4 (j6 (Ba K) rfl T.len A9 (c4 (i6 0) c8)) c8)))
  (c6 (i8 (i:=2) PY.nd rfl (Or.inl rfl) j0)
  (c6 (x9 o8 rfl (r9 K (i6 0)) (LW K (n:=2) rfl (o9 (j5 (i:=3) PY.nd rfl (Or.inl rfl)) (o9 (j5 (i:=4) PY.nd rfl (Or.inl rfl)) P2)))
   (c6 (q0 (Ca K B6 Bg Bf R9 (i6 1) (c4 (i9 GNb hr1 rfl mNb kNb bNb .nil j3 (c4 (k8 Cs (i6 3) (i6 2)) c8)) c8)))
  (c6 (q0 (Ca K B6 Bg Bf R9 (i6 1) (c4 (i9 GRb hr rfl mRb kRb bRb .nil j3 (c4 (i6 4) c8)) c8)))
  (e7 (i8 (i:=2) PY.nd rfl (Or.inl rfl) (i6 3))))))
  (e7 (l6 (i6 1)))))),?_⟩
 and_intros
 simpa only[↓Z4,X3]
 refine⟨_, .inl (o6.of hl),r.length,by rw[LX],hrl,fun p hp=>⟨⟨_,o6.of (k7 hl hp)⟩,?_⟩⟩
 refine w6 ys (QcF l p r H) ⟨none,none,rfl,d0 hp _,by rw[c5,M6];simp⟩ ?_ ?_ ?_
 ·rintro i σ L hi ⟨v3,v4,rfl,sL,hp'⟩
  exact o6.of (sL _ _ hl)
 ·rintro i y σ L hy ⟨v3,v4,rfl,sL,hp'⟩
  obtain⟨dv,h1,h2⟩:=hD.get hy
  rw[u8] at h1
  obtain⟨x,hx,rfl⟩:=D3.mp h1
  obtain⟨a,b,rfl,ha,hb⟩:=EL h2
  have Lm:(r.map (·.1))[i]? =some x.1:=by rw[u8,hx];rfl
  have Lp:=hR.1.at_ Lm
  obtain⟨hxb,OS⟩:=hq x (E7 hx)
  have Gj:=CO hx
  have Bc:=D6 Gj
  rw[l0] at Bc
  simpa only[l8]
  refine⟨_,AG.of (sL _ _ ha),rfl,?_⟩
  simpa only[↓Z4,X3,↓Yj,Ms,↓Ak]
  have nbp:b≠p:=k9 hb hp
  refine⟨.inl ⟨rfl,_,o6.of hp'⟩,(x.1-la (r.map (·.1)) i).toNat,by omega,by omega,fun t ht=>⟨_,k7 hp' ht,_,c5,AX ?_, .inl ⟨rfl,_,o6.of c5⟩,x.2,?_,OS,fun t2 M sM hr0 hM=> ?_⟩⟩
  ·rw[i5,i5,l0]
   omega
  ·rw[i4 nbp]
   exact k7 (sL _ _ hb) ht
  ·refine⟨_,sM _ _ c5,_,hM,AX ?_,some (.int x.1),some (.ref b),by rw[AQ Lm],(((sL.trans (d0 ht _)).newer hp _).trans sM).newer hp _,?_⟩
   ·rw[l0,i5,i5,i5,l0]
    omega
   ·rw[c5,K3 Gj,<-n4,<-n4]
    simp only[o5]
 ·rintro σ L ⟨v3,v4,rfl,sL,hp'⟩
  simpa only[l8]
  rw[LX,Y0 (by rw[Bz];exact l9 _)] at hp'
  exact q p L sL hp hp'
theorem QbT:FnScope ["text","row"] ["text"] (i7 sTb):=by ac_rfl
def QcC(z:Str)(H0:Hp)(i:Nat)(ys:List V)(σ:St)(L:Hp):Prop:=∃v0:Option V,ys=((z.cps.toList.take i).map Int.ofNat).map V.int/\L=H0/\σ=[v0]
theorem Qca{g:Addr}{gd:FuncData}(F:Fun K "text_bytes" "text_bytes" sTb f fd)(T:Txt mg)(GNb:FnOk P w K mg bs0 x8 1 g gd ["number"] X3)(bNb:Binds K gd ["number"] [])(kNb:PySem.W.keepIn K (.ref g)=true)(mNb:mg "number_bytes"=some (.ref g)):FnOk P w K mg bs0 x8 2 f fd ["text"] PR:=by
 refine F.ok QbT (fun vs H Q E h=> ?_) (fun H9 A outer s H vs Q E hr h=> ?_)
 ·obtain⟨z,rfl,_⟩:=h
  rfl
 obtain⟨z,rfl,hz,q⟩:=h
 refine⟨_,(c6 (i8 (i:=1) QbT.nd rfl (Or.inl rfl) (i9 GNb hr rfl mNb kNb bNb .nil j3 (c4 (j6 O4 rfl T.len A9 (c4 (i6 0) c8)) c8)))
  (c6 (q0 (Ca K B6 Bg Bf R9 (i6 1) (c4 (X7 (N:=["sign"]) (pick:=[none]) (NX:=["text","row"]) (sX:=i7 sTb) (by decide+kernel) rfl rfl rfl (Jc (i6 0))
    (fun _ _ _ _=>(j5 (i:=0) QaX rfl (Or.inl rfl))) (fun _ _ _ _=>R0) (fun _ _ _ _=>(j6 UX rfl T.ord (by decide+kernel) (c4 (i6 0) c8)))) c8)))
  (e7 (l6 (i6 1))))),?_⟩
 and_intros
 simpa only[↓Z4,X3,↓Uq,↓Ak]
 have hnl:=QY (n:=z.length) (by omega)
 refine⟨T9 (by omega),z.length,rfl,by omega,fun p hp=>⟨.inl ⟨rfl,_,o6.of c5⟩,?_⟩⟩
 refine EM (QcC z (upd H p (.lst ((nb z.length).map V.int)))) ⟨none,rfl,rfl,rfl⟩ ?_ ?_ ?_
 ·rintro i ys σ L hi ⟨v0,rfl,rfl,rfl⟩
  rw[i5,i5,I9,P7]
  exact T9 (by omega)
 ·rintro i c ys σ L hc ⟨v0,rfl,rfl,rfl⟩
  simpa only[l8]
  refine⟨rfl,_,?_,rfl,rfl⟩
  rw[q9,hc,n4,n4]
  rfl
 ·rintro ys σ L ⟨v0,rfl,rfl,rfl⟩ r hr0
  rw[show z.cps.toList.take z.length=z.cps.toList by rw[<-P7,B7]]
  refine⟨r,rfl,_,k7 c5 hr0,_,c5,AX ?_,?_⟩
  ·rw[i5,i5,i5,P7]
   omega
  ·refine q p _ (((d0 hp _).trans (d0 hr0 _)).newer hp _) hp ?_
   rw[c5,<-n4,A8]
theorem Ai{ns:List Str}{i:Nat}{y:V}(h:(ns.map V.str)[i]? =some y):∃n,ns[i]? =some n/\y= .str n:=by
 rw[u8] at h
 obtain⟨n,h1,rfl⟩:=D3.mp h
 exact⟨n,h1,rfl⟩
theorem AL.ok{C x:Addr}{M:Hp}{ms:List Mk}(h:AL C M x ms):Ok ms:=h.1
theorem SH:FnScope ["piece","field","row","make","words","word"] ["piece","field"] (i7 sFb):=by ac_rfl
def QcT(x p ml:Addr)(fl:Str)(ms:List Mk)(H:Hp)(i:Nat)(σ:St)(L:Hp):Prop:=∃v3 v4 v5:Option V,σ=[some (.ref x),some (.str fl),some (.ref p),v3,v4,v5]/\j9 H L/\L ml=some (.lst ((ms.map (·.1)).map V.int))/\L p=some (.lst ((A8 fl++((E3 ms fl).take i).flatten).map V.int))
def QcS(x p wl:Addr)(fl:Str)(ms:List Mk)(H:Hp)(i:Nat)(σ:St)(L:Hp):Prop:=∃v3 v5:Option V,σ=[some (.ref x),some (.str fl),some (.ref p),v3,some (.ref wl),v5]/\j9 H L/\L wl=some (.lst ((keysOf ms fl).map V.str))/\p≠wl/\L p=some (.lst ((A8 fl++(E3 ms fl).flatten++nb (keysOf ms fl).length++(((keysOf ms fl).map (O6 ms fl)).take i).flatten).map V.int))
theorem Qcr{C g1 g2 g3 g4 g5 g6 g7:Addr}{d1 d2 d3 d4 d5 d6 d7:FuncData}(F:Fun K "field_bytes" "field_bytes" sFb f fd)(T:Txt mg)(cl:Cls K C)
  (mPM:Meth K C "makes" g1)(GPM:FnOk P w K mg bs0 x8 1 g1 d1 ["self"] (FM C))(bPM:Binds K d1 ["self"] [])(mPL:Meth K C "length" g2)(GPL:FnOk P w K mg bs0 x8 1 g2 d2 ["self","make","field"] (Mu C))(bPL:Binds K d2 ["self","make","field"] [])
  (mPW:Meth K C "words" g3)(GPW:FnOk P w K mg bs0 x8 1 g3 d3 ["self","field"] (IM C))(bPW:Binds K d3 ["self","field"] [])(mPP:Meth K C "postings" g4)(GPP:FnOk P w K mg bs0 x8 1 g4 d4 ["self","field","word"] (Hn C))(bPP:Binds K d4 ["self","field","word"] [])
  (GNb:FnOk P w K mg bs0 x8 1 g5 d5 ["number"] X3)(bNb:Binds K d5 ["number"] [])(kNb:PySem.W.keepIn K (.ref g5)=true)(mNb:mg "number_bytes"=some (.ref g5))
  (GPb:FnOk P w K mg bs0 x8 3 g6 d6 ["postings"] Kt)(bPb:Binds K d6 ["postings"] [])(kPb:PySem.W.keepIn K (.ref g6)=true)(mPb:mg "postings_bytes"=some (.ref g6))
  (GTb:FnOk P w K mg bs0 x8 2 g7 d7 ["text"] PR)(bTb:Binds K d7 ["text"] [])(kTb:PySem.W.keepIn K (.ref g7)=true)(mTb:mg "text_bytes"=some (.ref g7)):FnOk P w K mg bs0 x8 4 f fd ["piece","field"] (Sn C):=by
 refine F.ok SH (fun vs H Q E h=> ?_) (fun H9 A outer s H vs Q E hr h=> ?_)
 ·obtain⟨x,fl,ms,rfl,_⟩:=h
  rfl
 obtain⟨x,fl,ms,rfl,Kc,Eh,q⟩:=h
 have hr1:Room 1 _:=hr.mono (by decide)
 have hr2:Room 2 _:=hr.mono (by decide)
 have ok:=Kc.ok
 have E2:=UL ok Eh
 unfold K7 at E2
 rw[l0,l0,l0] at E2
 have Qt:fl.length<=12:=by
  have:=Cz ok.2.1 Eh
  unfold Az at this
  rw[Q0] at this
  exact(A2 this.1).2
 have Da:∀{M:Hp},j9 H M->AL C M x ms:=fun s=>Kc.same s
 have Ep:∀{M:Hp},j9 H M->∃dx N B om,M x=some (.ins C dx (QX N B om)):=fun s=>by
  obtain⟨_,dx,om,B,N,_,_,h1,_⟩:=Da s
  exact⟨dx,N,B,om,h1⟩
 refine⟨_,(c6 (i8 (i:=2) SH.nd rfl (Or.inl rfl) (i9 GTb hr2 rfl mTb kTb bTb .nil j3 (c4 (i6 1) c8)))
  (c6 (x9 o8 rfl (r9 K (A6 (i6 0) cl mPM GPM hr1 bPM .nil j3)) (j5 (i:=3) SH.nd rfl (Or.inl rfl))
   (e7 (q0 (Ca K B6 Bg Bf R9 (i6 2) (c4 (i9 GNb hr1 rfl mNb kNb bNb .nil j3 (c4 (X6 (i6 0) cl mPL GPL hr1 bPL .nil j3 (c4 (i6 3) (c4 (i6 1) c8))) c8)) c8)))))
  (c6 (i8 (i:=4) SH.nd rfl (Or.inl rfl) (X6 (i6 0) cl mPW GPW hr1 bPW .nil j3 (c4 (i6 1) c8)))
  (c6 (q0 (Ca K B6 Bg Bf R9 (i6 2) (c4 (i9 GNb hr1 rfl mNb kNb bNb .nil j3 (c4 (j6 (Ba K) rfl T.len A9 (c4 (i6 4) c8)) c8)) c8)))
  (c6 (x9 o8 rfl (r9 K (i6 4)) (j5 (i:=5) SH.nd rfl (Or.inl rfl))
   (c6 (q0 (Ca K B6 Bg Bf R9 (i6 2) (c4 (i9 GTb hr2 rfl mTb kTb bTb .nil j3 (c4 (i6 5) c8)) c8)))
  (e7 (q0 (Ca K B6 Bg Bf R9 (i6 2) (c4 (i9 GPb hr rfl mPb kPb bPb .nil j3 (c4 (X6 (i6 0) cl mPP GPP hr1 bPP .nil j3 (c4 (i6 1) (c4 (i6 5) c8))) c8)) c8))))))
  (e7 (l6 (i6 2)))))))),?_⟩
 and_intros
 simpa only[↓Yi,PR,↓Ob,FM,↓C8]
 refine⟨by omega,fun p H1 s1 hp Xo=> ?_⟩
 obtain⟨dx1,N1,B1,om1,hx1⟩:=Ep s1
 refine⟨dx1,_,hx1,rfl,ms,Da s1,fun ml H2 s2 OW Xq=> ?_⟩
 have s12:=s1.trans s2
 have hmE:(ms.map fun m=>V.int m.1)=(ms.map (·.1)).map V.int:=by rw[K8];rfl
 rw[hmE] at Xq
 have npm:ml≠p:=fun z=>by rw[z,Xo] at OW;cases OW
 have Ma:((ms.map (·.1)).map V.int).length=(E3 ms fl).length:=by rw[i5,i5,E3,i5]
 refine⟨⟨_,o6.of Xq⟩,w6 ((ms.map (·.1)).map V.int) (QcT x p ml fl ms H) ⟨_,_,_,rfl,s12,Xq,by rw[M6];simpa using s2 _ _ Xo⟩ ?_ ?_ ?_⟩
 ·rintro i σ L hi ⟨v3,v4,v5,rfl,sL,hm',hp'⟩
  exact o6.of hm'
 ·rintro i y σ L hy ⟨v3,v4,v5,rfl,sL,hm',hp'⟩
  obtain⟨mk,hk,rfl⟩:=AR hy
  rw[u8] at hk
  obtain⟨m,hm,rfl⟩:=D3.mp hk
  have hb:(E3 ms fl)[i]? =some (nb (U7 ms m.1 fl)):=by unfold E3;rw[u8,hm];rfl
  have Bc:=D6 hb
  simpa only[↓Z4,X3,↓Yl,Mu,↓Ak,↓C8]
  obtain⟨dx2,N2,B2,om2,hx2⟩:=Ep sL
  have hbd:=MS ok m.1 fl
  refine⟨.inl ⟨rfl,_,o6.of hp'⟩,dx2,_,hx2,rfl,ms,Da sL,fun H3 s3=>⟨U7 ms m.1 fl,Uc ok.2.1 m.1 fl,by omega,fun t ht=>⟨_,k7 (s3 _ _ hp') ht,_,c5,AX ?_,_,_,_,rfl,((sL.trans s3).trans (d0 ht _)).newer hp _,by rw[i4 npm];exact k7 (s3 _ _ hm') ht,?_⟩⟩⟩
  ·rw[i5,i5,l0]
   omega
  ·rw[c5,K3 hb,<-n4,o5]
 ·rintro σ L ⟨v3,v4,v5,rfl,sL,hm',hp'⟩
  rw[Ma,B7] at hp'
  simpa only[↓Z4,X3,↓Sb,IM,↓Ak,↓C8]
  obtain⟨dx2,N2,B2,om2,hx2⟩:=Ep sL
  refine⟨dx2,_,hx2,rfl,ms,Da sL,fun wl H3 s3 LY hwv=> ?_⟩
  have s13:=sL.trans s3
  have npw:wl≠p:=fun z=>by rw[z,hp'] at LY;cases LY
  refine⟨.inl ⟨rfl,_,o6.of (s3 _ _ hp')⟩,_, .inl (o6.of hwv),(keysOf ms fl).length,by rw[i5];rfl,?_,fun t ht=>⟨_,k7 (s3 _ _ hp') ht,_,c5,AX ?_,?_⟩⟩
  ·have:=Cw ok fl
   omega
  ·rw[i5,i5,l0]
   omega
  refine⟨⟨_,o6.of (by rw[i4 npw];exact k7 hwv ht)⟩,w6 ((keysOf ms fl).map V.str) (QcS x p wl fl ms H) ⟨_,_,rfl,(s13.trans (d0 ht _)).newer hp _,by rw[i4 npw];exact k7 hwv ht,npw.symm,by rw[c5,M6,<-n4];simp⟩ ?_ ?_ ?_⟩
  ·rintro i σ L hi ⟨v3,v5,rfl,sL,hw',_,hp'⟩
   exact o6.of hw'
  ·rintro i y σ L hy ⟨v3,v5,rfl,sL,hw',npw,hp'⟩
   obtain⟨wd,hk,rfl⟩:=Ai hy
   have hb:((keysOf ms fl).map (O6 ms fl))[i]? =some (O6 ms fl wd):=by rw[u8,hk];rfl
   have Bc:=D6 hb
   have LY:(O6 ms fl wd).length=(A8 wd).length+(W4 (A1 ms fl wd)).length:=l0
   have hwg:=(Ee ok (E7 hk)).2
   simpa only[↓Yi,PR,↓Yk,Kt,↓Oa,Hn,↓Ak,↓C8]
   refine⟨.inl ⟨rfl,_,o6.of hp'⟩,by omega,fun t H3 s3 ht htv=>⟨_,s3 _ _ hp',_,htv,AX ?_, .inl ⟨rfl,_,o6.of c5⟩,?_⟩⟩
   ·rw[i5,i5]
    simp only[l0]
    omega
   have s4:=(sL.trans s3).newer hp (.lst ((A8 fl++(E3 ms fl).flatten++nb (keysOf ms fl).length++(((keysOf ms fl).map (O6 ms fl)).take i).flatten).map V.int++(A8 wd).map V.int))
   obtain⟨dx3,N3,B3,om3,hx3⟩:=Ep s4
   refine⟨dx3,_,hx3,rfl,ms,Da s4,fun t2 ys H4 s5 ht2 ht2v hD=>⟨_,ht2v,A1 ms fl wd,i3.same ((At _ _).trans Am) _ _ hD,IX ok fl wd,fun t3 H5 s6 ht3 ht3v=> ?_⟩⟩
   have s56:=s5.trans s6
   refine⟨_,s56 _ _ c5,_,ht3v,AX ?_,_,_,rfl,(s4.trans s56).newer hp _,?_,npw,?_⟩
   ·simp only[l0,i5]
    omega
   ·rw[i4 npw.symm]
    exact s56 _ _ (by rw[i4 npw.symm];exact s3 _ _ hw')
   ·rw[c5,K3 hb,<-n4,<-n4,show O6 ms fl wd=A8 wd++W4 (A1 ms fl wd) from rfl]
    simp only[o5]
  ·rintro σ L ⟨v3,v5,rfl,sL,hw',_,hp'⟩
   simpa only[l8]
   rw[i5,Y0 (by rw[i5];exact l9 _)] at hp'
   exact q p L sL hp hp'
theorem Oh:FnScope ["piece","row","fields","field"] ["piece"] (i7 ZS):=by ac_rfl
def Qbb(x p fo:Addr)(ms:List Mk)(H:Hp)(i:Nat)(σ:St)(L:Hp):Prop:=∃v3:Option V,σ=[some (.ref x),some (.ref p),some (.ref fo),v3]/\j9 H L/\L fo=some (.lst ((j7 ms).map V.str))/\p≠fo/\L p=some (.lst ((O7 (ms.map (·.1))++nb (j7 ms).length++(((j7 ms).map (K7 ms)).take i).flatten).map V.int))
theorem QaC{C g1 g2 g3 g4 g5:Addr}{d1 d2 d3 d4 d5:FuncData}(F:Fun K "piece_bytes" "piece_bytes" ZS f fd)(T:Txt mg)(cl:Cls K C)
  (mPM:Meth K C "makes" g1)(GPM:FnOk P w K mg bs0 x8 1 g1 d1 ["self"] (FM C))(bPM:Binds K d1 ["self"] [])(mPF:Meth K C "fields" g2)(GPF:FnOk P w K mg bs0 x8 1 g2 d2 ["self"] (IN C))(bPF:Binds K d2 ["self"] [])
  (GNb:FnOk P w K mg bs0 x8 1 g3 d3 ["number"] X3)(bNb:Binds K d3 ["number"] [])(kNb:PySem.W.keepIn K (.ref g3)=true)(mNb:mg "number_bytes"=some (.ref g3))
  (GRb:FnOk P w K mg bs0 x8 2 g4 d4 ["numbers"] Ms)(bRb:Binds K d4 ["numbers"] [])(kRb:PySem.W.keepIn K (.ref g4)=true)(mRb:mg "rising_bytes"=some (.ref g4))
  (GFb:FnOk P w K mg bs0 x8 4 g5 d5 ["piece","field"] (Sn C))(bFb:Binds K d5 ["piece","field"] [])(kFb:PySem.W.keepIn K (.ref g5)=true)(mFb:mg "field_bytes"=some (.ref g5)):FnOk P w K mg bs0 x8 5 f fd ["piece"] (HK C):=by
 refine F.ok Oh (fun vs H Q E h=> ?_) (fun H9 A outer s H vs Q E hr h=> ?_)
 ·obtain⟨x,ms,rfl,_⟩:=h
  rfl
 obtain⟨x,ms,rfl,Kc,q⟩:=h
 have hr1:Room 1 _:=hr.mono (by decide)
 have hr2:Room 2 _:=hr.mono (by decide)
 have ok:=Kc.ok
 have E2:=Jg ok
 unfold MJ at E2
 rw[l0,l0] at E2
 have Da:∀{M:Hp},j9 H M->AL C M x ms:=fun s=>Kc.same s
 have Ep:∀{M:Hp},j9 H M->∃dx N B om,M x=some (.ins C dx (QX N B om)):=fun s=>by
  obtain⟨_,dx,om,B,N,_,_,h1,_⟩:=Da s
  exact⟨dx,N,B,om,h1⟩
 refine⟨_,(c6 (i8 (i:=1) Oh.nd rfl (Or.inl rfl) (i9 GRb hr2 rfl mRb kRb bRb .nil j3 (c4 (A6 (i6 0) cl mPM GPM hr1 bPM .nil j3) c8)))
  (c6 (i8 (i:=2) Oh.nd rfl (Or.inl rfl) (A6 (i6 0) cl mPF GPF hr1 bPF .nil j3))
  (c6 (q0 (Ca K B6 Bg Bf R9 (i6 1) (c4 (i9 GNb hr1 rfl mNb kNb bNb .nil j3 (c4 (j6 (Ba K) rfl T.len A9 (c4 (i6 2) c8)) c8)) c8)))
  (c6 (x9 o8 rfl (r9 K (i6 2)) (j5 (i:=3) Oh.nd rfl (Or.inl rfl))
   (e7 (q0 (Ca K B6 Bg Bf R9 (i6 1) (c4 (i9 GFb hr rfl mFb kFb bFb .nil j3 (c4 (i6 0) (c4 (i6 3) c8))) c8)))))
  (e7 (l6 (i6 1))))))),?_⟩
 and_intros
 simpa only[↓Yj,Ms,↓Ob,FM,↓Sd,IN,↓Z4,X3,↓C8,↓Ak]
 obtain⟨dx1,N1,B1,om1,hx1⟩:=Ep (j9.refl H)
 refine⟨dx1,_,hx1,rfl,ms,Kc,fun ml H1 s1 OW Xq=>⟨ms.map (·.1),by rw[K8];exact Xq,ED ok,fun p H2 s2 hp Xo=> ?_⟩⟩
 have s12:=s1.trans s2
 have hpH:H p=none:=s1.free hp
 obtain⟨dx2,N2,B2,om2,hx2⟩:=Ep s12
 refine⟨dx2,_,hx2,rfl,ms,Da s12,fun fo H3 s3 DH hfv=> ?_⟩
 have npf:fo≠p:=fun z=>by rw[z,Xo] at DH;cases DH
 have hf4:=Cy ok
 refine⟨.inl ⟨rfl,_,o6.of (s3 _ _ Xo)⟩,_, .inl (o6.of hfv),(j7 ms).length,by rw[i5];rfl,by omega,fun t ht=>⟨_,k7 (s3 _ _ Xo) ht,_,c5,AX ?_,?_⟩⟩
 ·rw[i5,i5]
  omega
 refine⟨⟨_,o6.of (by rw[i4 npf];exact k7 hfv ht)⟩,w6 ((j7 ms).map V.str) (Qbb x p fo ms H) ⟨_,rfl,((s12.trans s3).trans (d0 ht _)).newer hpH _,by rw[i4 npf];exact k7 hfv ht,npf.symm,by rw[c5,M6,<-n4];simp⟩ ?_ ?_ ?_⟩
 ·rintro i σ L hi ⟨v3,rfl,sL,hf',_,hp'⟩
  exact o6.of hf'
 ·rintro i y σ L hy ⟨v3,rfl,sL,hf',npf,hp'⟩
  obtain⟨fl,hk,rfl⟩:=Ai hy
  have hb:((j7 ms).map (K7 ms))[i]? =some (K7 ms fl):=by rw[u8,hk];rfl
  have Bc:=D6 hb
  simpa only[↓QbR,Sn,↓Ak]
  refine⟨.inl ⟨rfl,_,o6.of hp'⟩,ms,Da sL,E7 hk,fun t H4 s4 ht htv=>⟨_,s4 _ _ hp',_,htv,AX ?_,_,rfl,(sL.trans s4).newer hpH _,by rw[i4 npf.symm];exact s4 _ _ hf',npf,?_⟩⟩
  ·simp only[l0,i5]
   omega
  ·rw[c5,K3 hb,<-n4,o5]
 ·rintro σ L ⟨v3,rfl,sL,hf',_,hp'⟩
  simpa only[l8]
  rw[i5,Y0 (by rw[i5];exact l9 _)] at hp'
  exact q p L sL hpH hp'
def DG(S:List Addr)(H:Hp):Hp:=fun a=>if a∈S then none else H a
theorem AA{S:List Addr}{H:Hp}{a:Addr}{u:HO}(h:H a=some u)(n:a∉S):DG S H a=some u:=by unfold DG;rw[if_neg n];exact h
theorem Jh{S:List Addr}{H:Hp}{a:Addr}{u:HO}(h:DG S H a=some u):H a=some u/\a∉S:=by
 unfold DG at h
 by_cases n:a∈S
 ·rw[if_pos n] at h;cases h
 ·rw[if_neg n] at h;exact⟨h,n⟩
theorem Bq{S:List Addr}{H:Hp}:j9 (DG S H) H:=fun _ _ h=>(Jh h).1
def Mv(S:List Addr)(H H':Hp):Prop:=∀b o,b∉S->H b=some o->H' b=some o
section
variable {S S':List Addr} {H H' H'' L:Hp} {a b p r:Addr} {o:HO}
theorem Mv.refl:Mv S H H:=fun _ _ _ h=>h
theorem Mv.trans(h:Mv S H H')(k:Mv S H' H''):Mv S H H'':=fun b o n e=>k b o n (h b o n e)
theorem Mv.sub(h:Mv S H H')(k:∀x∈S,x∈S'):Mv S' H H':=fun b o n e=>h b o (fun z=>n (k b z)) e
theorem Mv.of(h:j9 H H'):Mv S H H':=fun b o _ e=>h b o e
theorem Mv.upd(h:Mv S H L)(n:a∈S):Mv S H (upd L a o):=fun b u m e=>by rw[i4 (fun z=>m (by rw[z];exact n))];exact h b u m e
theorem Mv.new(h:Mv S H L)(n:H p=none):Mv S H (L2.upd L p o):=fun b u m e=>by rw[i4 (k9 e n)];exact h b u m e
theorem Mv.free(h:Mv [r] H L)(hr:L r=some o)(n:L b=none):H b=none:=by
 cases e:H b with
 |none=>rfl
 |some u=>
  by_cases c:b=r
  ·rw[c,hr] at n;cases n
  ·rw[h b u (by simpa using c) e] at n;cases n
theorem Mv.at_(h:Mv [r] H L)(e:H b=some o)(n:b≠r):L b=some o:=h b o (by simpa using n) e
end
theorem EZ{G H:Hp}{a:Addr}{u:HO}(h:nw G H a=some u):H a=some u/\G a=none:=by
 unfold nw at h
 by_cases g:G a=none
 ·rw[if_pos g] at h;exact⟨h,g⟩
 ·rw[if_neg g] at h;cases h
theorem nwo{S:List Addr}{r:Addr}{H L L':Hp}{o:HO}(hr:H r=some o)(h:Mv (r::S) L L'):j9 (DG S (nw H L)) (DG S (nw H L')):=fun b u e=>by
 obtain⟨e1,e2⟩:=Jh e
 obtain⟨e3,e4⟩:=EZ e1
 refine AA (C6 (h b u (fun z=> ?_) e3) e4) e2
 rcases E8.mp z with z|z
 ·rw[z,hr] at e4;cases e4
 ·exact e2 z
def rd(a:Addr)(i:Int):List (Str×V):=[("row", .ref a),("at", .int i)]
theorem MD(a:Addr)(i:Int):(rd a i).lookup ("row":Str)=some (V.ref a):=rfl
theorem Oq(a:Addr)(i:Int):(rd a i).lookup ("at":Str)=some (V.int i):=rfl
theorem Qah(a:Addr)(i j:Int):J6 "at" (.int j) (rd a i)=rd a j:=rfl
theorem Qai(a:Addr)(j:Int):J6 "at" (.int j) (J6 "row" (.ref a) [])=rd a j:=rfl
def Q5(C r a:Addr)(H:Hp)(t:List Int):Prop:=∃(dx:Addr) (ns:List Int) (k:Nat),H r=some (.ins C dx (rd a k))/\H a=some (.lst (ns.map V.int))/\ns.drop k=t
theorem Q5.same{C r a:Addr}{H L:Hp}{t:List Int}(h:Q5 C r a H t)(s:j9 H L):Q5 C r a L t:=by
 obtain⟨dx,ns,k,h1,h2,h3⟩:=h
 exact⟨dx,ns,k,s _ _ h1,s _ _ h2,h3⟩
theorem Q5.put{C r a p:Addr}{H:Hp}{t:List Int}{o:HO}(h:Q5 C r a H t)(n1:p≠r)(n2:p≠a):Q5 C r a (upd H p o) t:=by
 obtain⟨dx,ns,k,h1,h2,h3⟩:=h
 exact⟨dx,ns,k,by rw[i4 n1.symm];exact h1,by rw[i4 n2.symm];exact h2,h3⟩
theorem Q5.ins{C r a:Addr}{H:Hp}{t:List Int}(h:Q5 C r a H t):∃dx k,H r=some (.ins C dx (rd a k)):=by
 obtain⟨dx,ns,k,h1,_⟩:=h
 exact⟨dx,_,h1⟩
theorem Q5.nr{C r a p:Addr}{H:Hp}{t:List Int}(h:Q5 C r a H t)(e:H p=none):p≠r/\p≠a:=by
 obtain⟨dx,ns,k,h1,h2,_⟩:=h
 exact⟨(fun z=>by rw[z,h1] at e;cases e),(fun z=>by rw[z,h2] at e;cases e)⟩
def RZ(C:Addr):Sp:=fun vs H Q _=>∃(x a dx:Addr),vs=[.ref x, .ref a]/\H x=some (.ins C dx [])/\Q .non (upd H x (.ins C dx (rd a 0)))
def QbL{C:Addr}{v0:Addr}{v1:Addr}{H:Hp}{Q:VK}{E:XK}:=show RZ C [.ref v0, .ref v1] H Q E=_ by
 simpa only[RZ]
 rfl
def Ci(C:Addr):Sp:=fun vs H Q _=>∃(r a:Addr) (b:Int) (t:List Int),vs=[.ref r]/\Q5 C r a H (b::t)/\0<=b/\b<=255/\∀H',Mv [r] H H'->Q5 C r a H' t->Q (.int b) H'
def IQ{C:Addr}{v0:Addr}{H:Hp}{Q:VK}{E:XK}:=show Ci C [.ref v0] H Q E=_ by
 simpa only[Ci]
 rfl
def Y2(C:Addr):Sp:=fun vs H Q _=>∃(r a:Addr) (n:Nat) (t:List Int),vs=[.ref r]/\Q5 C r a H (nb n++t)/\∀H',Mv [r] H H'->Q5 C r a H' t->Q (.int n) H'
def Cg{C:Addr}{v0:Addr}{H:Hp}{Q:VK}{E:XK}:=show Y2 C [.ref v0] H Q E=_ by
 simpa only[Y2]
 rfl
def Sm(C:Addr):Sp:=fun vs H Q _=>∃(r a:Addr),vs=[.ref r]/\Q5 C r a H []/\Q .non H
def QbQ{C:Addr}{v0:Addr}{H:Hp}{Q:VK}{E:XK}:=show Sm C [.ref v0] H Q E=_ by
 simpa only[Sm]
 rfl
section
variable {P:Program} {w:World} {K:n9} {mg:Str->Option Value} {bs0:Heap} {f:Addr} {fd:FuncData} {C:Addr}
theorem Qda:FnScope ["self","row"] ["self","row"] (i7 sRI):=by ac_rfl
theorem TD(F:Fun K "__init__" "Reader.__init__" sRI f fd)(cl:Cls K C)(n1:J8 K C "row")(n2:J8 K C "at"):FnOk P w K mg bs0 x8 1 f fd ["self","row"] (RZ C):=by
 refine F.ok Qda (fun vs H Q E h=> ?_) (fun H9 A outer s H vs Q E hr h=> ?_)
 ·obtain⟨x,a,dx,rfl,_⟩:=h
  rfl
 obtain⟨x,a,dx,rfl,hx,q⟩:=h
 refine⟨_,(c6 (Co (i6 0) (i6 1) rfl)
  (e7 (Co (i6 0) j0 rfl))),?_⟩
 and_intros
 simpa only[↓WA]
 refine⟨C,dx,[],hx,cl,n1,by decide,C,dx,_,c5,cl,n2,(by show 1<1000;decide),?_⟩
 rw[AN,Qai]
 exact q
theorem SJ:FnScope ["self","byte"] ["self"] (i7 SU):=by ac_rfl
theorem WU(F:Fun K "next_byte" "Reader.next_byte" SU f fd)(T:Txt mg)(clR:Cls K C)(n1:J8 K C "row")(n2:J8 K C "at"):FnOk P w K mg bs0 x8 1 f fd ["self"] (Ci C):=by
 refine F.ok SJ (fun vs H Q E h=> ?_) (fun H9 A outer s H vs Q E hr h=> ?_)
 ·obtain⟨r,a,b,t,rfl,_⟩:=h
  rfl
 obtain⟨r,a,b,t,rfl,⟨dx,ns,k,hr',ha,hk⟩,b0,b1,q⟩:=h
 obtain⟨tL,hL⟩:=T.last
 have hi:k<ns.length:=by
  have:=congrArg List.length hk
  rw[GG,List.length_cons] at this
  omega
 have hb:ns[k]? =some b:=by
  have:=congrArg (fun l=>l[0]?) hk
  simpa using this
 have ht:ns.drop (k+1)=t:=by
  have:=congrArg List.tail hk
  simpa using this
 refine⟨_,(c6 (C4 (o4 KQ (Y6 (i6 0) rfl) (j6 (Ba K) rfl T.len A9 (c4 (Y6 (i6 0) rfl) c8)) (q5 _)) (e7 Q8) o7)
  (c6 (i8 (i:=1) SJ.nd rfl (Or.inl rfl) (N7 (Lj K) (Y6 (i6 0) rfl) (Y6 (i6 0) rfl) (fun _ _=>rfl)))
  (c6 (C4 (PW.pt (Bp (o4 Dc (i6 1) j0 (q5 _)) (Aw (o4 HW (i6 1) (U5 rfl hL) (q5 _))))) (e7 Q8) o7)
  (c6 (Qg (i6 0) j0 Qbj)
  (e7 (l6 (i6 1))))))),?_⟩
 and_intros
 simpa only[↓Hk,↓Oo,↓Qb6,↓X1]
 refine⟨C,dx,_,hr',clR,n2,_,Oq a k,C,dx,_,hr',clR,n1,_,MD a k,a,rfl,_, .inl (o6.of ha),_,rfl,?_⟩
 refine O3 (fun c=> ?_) (fun c=> ?_)
 ·have c':=A2 c
  rw[i5] at c'
  omega
 have av:DI (ns.map V.int) (k:Int)=some (.int b):=V9 (by rw[u8,hb];rfl)
 refine⟨C,dx,_,hr',clR,n1,_,MD a k,C,dx,_,hr',clR,n2,_,Oq a k,?_⟩
 refine⟨a,rfl,_,_,rfl,o6.of ha,_,av,_,rfl,O3 (fun c=> ?_) (fun c1=>⟨_,rfl,O3 (fun c=> ?_) (fun c2=> ?_)⟩)⟩
 ·have:=A2 c
  omega
 ·have:=A2 c
  omega
 refine⟨C,dx,_,hr',clR,n2,_,Oq a k,_,rfl,dx,_,hr',(by show 2<1000;decide),?_⟩
 rw[Qah,show (k:Int)+1=((k+1:Nat):Int) by omega]
 have nar:a≠r:=AO ha hr' (by intro z;cases z)
 exact q _ (Mv.refl.upd (by simp)) ⟨dx,ns,k+1,c5,by rw[i4 nar];exact ha,ht⟩
theorem FR:FnScope ["self","byte","number","part"] ["self"] (i7 ZT):=by ac_rfl
def QbB(C r a:Addr)(n:Nat)(t:List Int)(H:Hp)(mu:Nat)(σ:St)(L:Hp):Prop:=∃(m num part:Nat) (b:Int) (s:List Int),mu=m/\σ=[some (.ref r),some (.int b),some (.int num),some (.int part)]/\Mv [r] H L/\Q5 C r a L (s++t)/\nb m=b::s/\n=num+m*part
theorem QaE{gb:Addr}{db:FuncData}(F:Fun K "next_number" "Reader.next_number" ZT f fd)(T:Txt mg)(clR:Cls K C)(mRB:Meth K C "next_byte" gb)(GRB:FnOk P w K mg bs0 x8 1 gb db ["self"] (Ci C))(bRB:Binds K db ["self"] []):FnOk P w K mg bs0 x8 2 f fd ["self"] (Y2 C):=by
 refine F.ok FR (fun vs H Q E h=> ?_) (fun H9 A outer s H vs Q E hr h=> ?_)
 ·obtain⟨r,a,n,t,rfl,_⟩:=h
  rfl
 obtain⟨r,a,n,t,rfl,hR,q⟩:=h
 obtain⟨tP,hP⟩:=T.part
 refine⟨_,(c6 (i8 (i:=1) FR.nd rfl (Or.inl rfl) (A6 (i6 0) clR mRB GRB hr bRB .nil j3))
  (c6 (i8 (i:=2) FR.nd rfl (Or.inl rfl) j0)
  (c6 (i8 (i:=3) FR.nd rfl (Or.inl rfl) j0)
  (c6 (V5 o8 (o4 KQ (i6 1) (U5 rfl hP) (q5 _))
   (c6 (MH (i:=2) FR.nd rfl (Or.inl rfl) (k8 AZ (k8 Cs (i6 1) (U5 rfl hP)) (i6 3)) Um)
  (c6 (MH (i:=3) FR.nd rfl (Or.inl rfl) (U5 rfl hP) Qba)
  (c6 (i8 (i:=1) FR.nd rfl (Or.inl rfl) (A6 (i6 0) clR mRB GRB hr bRB .nil j3))
  (e7 (C4 (o4 Dd (i6 1) j0 (q5 _)) (e7 Q8) o7))))))
  (e7 (l6 (k8 K6 (i6 2) (k8 AZ (i6 1) (i6 3))))))))),?_⟩
 and_intros
 simpa only[↓C8,↓IQ,Ci,↓X1]
 obtain⟨b,s,e,b0,b1,_⟩:=Jk n
 obtain⟨dx,k,hr'⟩:=hR.ins
 refine⟨dx,_,hr',rfl,a,b,s++t,by rw[e] at hR;exact hR,b0,b1,fun H1 m1 hR1=>⟨QbB C r a n t H,⟨n,n,0,1,b,s,rfl,rfl,m1,hR1,e,by omega⟩,?_⟩⟩
 rintro mu σ L ⟨m,num,part,b,s,rfl,rfl,m2,hR2,e,hn⟩
 simpa only[↓C8,↓IQ,Ci,↓X1,ipM]
 obtain⟨b',s',e',b0,b1,bz,hcase⟩:=Jk mu
 rw[e] at e'
 obtain⟨rfl,rfl⟩:=Dx e'
 refine O3 (fun c=> ?_) (fun c=> ?_)
 ·have c':=A2 c
  obtain⟨_,m128,eb,es⟩:=hcase.resolve_right (fun z=>by omega)
  obtain⟨b2,s2,e2,z0,z1,zz,_⟩:=Jk (mu/128)
  obtain⟨dx,k,hr2⟩:=hR2.ins
  refine⟨fun σ' H'=>∃m',m'<mu/\QbB C r a n t H m' σ' H',fun _ _ h=>h, .inl ⟨by omega,by omega⟩, .inr ⟨by decide,by decide⟩,dx,_,hr2,rfl,a,b2,s2++t,by rw[es,e2] at hR2;exact hR2,z0,z1,fun H3 m3 hR3=> ?_⟩
  refine O3 (fun z=> ?_) (fun z=> ?_)
  ·have:=zz (A2 z)
   omega
  ·refine⟨mu/128,by omega,mu/128,num+(b-128).toNat*part,part*128,b2,s2,rfl,?_,m2.trans m3,hR3,e2,?_⟩
   ·have:(((b-128).toNat:Nat):Int)=b-128:=by omega
    rw[Int.natCast_add,No,No,this]
    rfl
   ·have h1:(b-128).toNat=mu % 128:=by omega
    rw[h1,hn]
    have h2:mu*part=(mu % 128)*part+(mu/128)*(part*128):=by
     have h3:=Nat.div_add_mod mu 128
     calc mu*part=(128*(mu/128)+mu % 128)*part:=by rw[h3]
      _=(mu % 128)*part+(mu/128)*(part*128):=by rw[Nat.add_mul,Nat.add_comm,ND 128 (mu/128),Nat.mul_assoc,ND part 128]
    omega
 ·have c':b<128:=by
   simp only[decide_eq_true_eq] at c
   omega
  obtain⟨_,m128,eb,es⟩:=hcase.resolve_left (fun z=>by omega)
  refine⟨.inl ⟨by omega,by omega⟩,?_⟩
  have:=q L m2 (by rw[es] at hR2;exact hR2)
  rw[hn,Int.natCast_add,No,<-eb] at this
  exact this
theorem Qdf:FnScope ["self"] ["self"] (i7 sLE):=by ac_rfl
theorem Qcq(F:Fun K "look_at_end" "Reader.look_at_end" sLE f fd)(T:Txt mg)(clR:Cls K C)(n1:J8 K C "row")(n2:J8 K C "at"):FnOk P w K mg bs0 x8 1 f fd ["self"] (Sm C):=by
 refine F.ok Qdf (fun vs H Q E h=> ?_) (fun H9 A outer s H vs Q E hr h=> ?_)
 ·obtain⟨r,a,rfl,_⟩:=h
  rfl
 obtain⟨r,a,rfl,⟨dx,ns,k,hr',ha,hk⟩,q⟩:=h
 refine⟨_,(e7 (C4 (o4 Dc (Y6 (i6 0) rfl) (j6 (Ba K) rfl T.len A9 (c4 (Y6 (i6 0) rfl) c8)) (q5 _)) (e7 Q8) o7)),?_⟩
 and_intros
 simpa only[↓Hk,↓X1]
 refine⟨C,dx,_,hr',clR,n2,_,Oq a k,C,dx,_,hr',clR,n1,_,MD a k,a,rfl,_, .inl (o6.of ha),_,rfl,?_⟩
 refine O3 (fun c=> ?_) (fun c=>q)
 have c':=A2 c
 rw[i5] at c'
 have:=List.drop_eq_nil_iff.mp hk
 omega
end
theorem OL{xs:List Int}(h:xs≠[]):DI (xs.map V.int) (-1)=some (.int (xs.getLastD 0)):=by
 refine Ph ?_
 rw[i5,u8,<-List.getLast?_eq_getElem?,List.getLastD_eq_getLast?]
 cases e:xs.getLast? with
 |none=>exact absurd (List.getLast?_eq_none_iff.mp e) h
 |some y=>rfl
def FP(C:Addr):Sp:=fun vs H Q _=>∃(r l a:Addr) (ys:List Int) (x:Int) (t:List Int),vs=[.ref r, .ref l]/\Q5 C r a H (nb (x-ys.getLastD 0).toNat++t)/\H l=some (.lst (ys.map V.int))/\ys.getLastD 0<=x/\(ys≠[]->ys.getLastD 0<x)/\∀H',Mv [r] H H'->Q5 C r a H' t->Q (.int x) H'
def Sr{C:Addr}{v0:Addr}{v1:Addr}{H:Hp}{Q:VK}{E:XK}:=show FP C [.ref v0, .ref v1] H Q E=_ by
 simpa only[FP]
 rfl
def FL(C:Addr):Sp:=fun vs H Q _=>∃(r a:Addr) (xs t:List Int),vs=[.ref r]/\Q5 C r a H (O7 xs++t)/\Hc xs/\∀p H',Mv [r] H H'->H p=none->Q5 C r a H' t->H' p=some (.lst (xs.map V.int))->Q (.ref p) H'
def RY{C:Addr}{v0:Addr}{H:Hp}{Q:VK}{E:XK}:=show FL C [.ref v0] H Q E=_ by
 simpa only[FL]
 rfl
def Sf(C:Addr):Sp:=fun vs H Q _=>∃(r a:Addr) (rw:Rw) (t:List Int),vs=[.ref r]/\Q5 C r a H (W4 rw++t)/\Pu rw/\∀p ys H',Mv [r] H H'->H p=none->Q5 C r a H' t->H' p=some (.lst ys)->i3 (nw H H') (rw.map Df) ys->Q (.ref p) H'
def QbN{C:Addr}{v0:Addr}{H:Hp}{Q:VK}{E:XK}:=show Sf C [.ref v0] H Q E=_ by
 simpa only[Sf]
 rfl
def Yo(c:Nat):Prop:=32<=c/\c<=126/\c≠37
def RX:Sp:=fun vs H Q _=>∃(b:Int),vs=[.int b]/\0<=b/\Yo b.toNat/\Q (.str ⟨#[b.toNat]⟩) H
def QbK{v0:Int}{H:Hp}{Q:VK}{E:XK}:=show RX [.int v0] H Q E=_ by
 simpa only[RX]
 rfl
def Mw(C:Addr):Sp:=fun vs H Q _=>∃(r a:Addr) (z:Str) (t:List Int),vs=[.ref r]/\Q5 C r a H (A8 z++t)/\z.length<=1000/\(∀c∈z.cps.toList,Yo c)/\∀H',Mv [r] H H'->Q5 C r a H' t->Q (.str z) H'
def Ym{C:Addr}{v0:Addr}{H:Hp}{Q:VK}{E:XK}:=show Mw C [.ref v0] H Q E=_ by
 simpa only[Mw]
 rfl
theorem QbS:∀c,c<127->32<=c->c≠37->Ni.cps.toList[c-32]? =some c:=by decide+kernel
abbrev Dq(l:List Nat):List Str:=List.map (fun c:Nat=>(⟨#[c]⟩:Str)) l
theorem join_list:∀l:List Nat,(Str.join "" (Dq l)).cps.toList=l
 |[]=>rfl
 |[c]=>rfl
 |c::d::l=>by
  show ((#[c]++ #[])++(Str.join "" (Dq (d::l))).cps).toList=_
  have ih:=join_list (d::l)
  simp
  exact ih
theorem Ui(z:Str):Txt.join "" (Dq z.cps.toList)=z:=by
 have e:Txt.join "" (Dq z.cps.toList)=Str.join "" (Dq z.cps.toList):=StrLaws.glued_eq_join _ _
 rw[e]
 exact IK (join_list _)
section
variable {P:Program} {w:World} {K:n9} {mg:Str->Option Value} {bs0:Heap} {f:Addr} {fd:FuncData} {C:Addr}
theorem Yq:FnScope ["self","numbers","step"] ["self","numbers"] (i7 Qae):=by ac_rfl
theorem QaS{gn:Addr}{dn:FuncData}(F:Fun K "next_behind" "Reader.next_behind" Qae f fd)(T:Txt mg)(clR:Cls K C)(mRN:Meth K C "next_number" gn)(GRN:FnOk P w K mg bs0 x8 2 gn dn ["self"] (Y2 C))(bRN:Binds K dn ["self"] []):FnOk P w K mg bs0 x8 3 f fd ["self","numbers"] (FP C):=by
 refine F.ok Yq (fun vs H Q E h=> ?_) (fun H9 A outer s H vs Q E hr h=> ?_)
 ·obtain⟨r,l,a,ys,x,t,rfl,_⟩:=h
  rfl
 obtain⟨r,l,a,ys,x,t,rfl,hR,hl,hx,hx',q⟩:=h
 refine⟨_,(c6 (i8 (i:=2) Yq.nd rfl (Or.inl rfl) (A6 (i6 0) clR mRN GRN hr bRN .nil j3))
  (c6 (C4 (Q7 (Cn (i6 1) (fun _=>rfl))) (e7 (l6 (i6 2))) o7)
  (c6 (C4 (o4 Dd (i6 2) j0 (q5 _)) (e7 Q8) o7)
  (e7 (l6 (k8 K6 (N7 (Lj K) (i6 1) (HU Er j0) (fun _ _=>rfl)) (i6 2))))))),?_⟩
 and_intros
 simpa only[↓C8,↓Cg,Y2,↓X1]
 obtain⟨dx,k,hr'⟩:=hR.ins
 have nlr:l≠r:=AO hl hr' (by intro z;cases z)
 refine⟨dx,_,hr',rfl,a,(x-ys.getLastD 0).toNat,t,hR,fun H1 m1 hR1=>⟨!ys.isEmpty, .inl ⟨_,o6.of (m1.at_ hl nlr),by cases ys<;>rfl⟩,?_⟩⟩
 have en:(((x-ys.getLastD 0).toNat:Nat):Int)=x-ys.getLastD 0:=by omega
 rw[en]
 cases Kb:ys with
 |nil=>
  rw[if_pos (by rfl)]
  rw[Kb] at en
  have:=q H1 m1 hR1
  simpa using this
 |cons y r'=>
  have Ig:ys≠[]:=by rw[Kb];exact List.cons_ne_nil _ _
  rw[if_neg (by simp),<-Kb]
  have:=hx' Ig
  refine O3 (fun z=> ?_) (fun z=> ?_)
  ·have:=A2 z
   omega
  ·refine⟨_,o6.of (m1.at_ hl nlr),_,OL Ig,_,rfl,?_⟩
   rw[show ys.getLastD 0+(x-ys.getLastD 0)=x by omega]
   exact q H1 m1 hR1
theorem Sy:FnScope ["self","many","numbers"] ["self"] (i7 ZP):=by ac_rfl
def QbA(C r a p:Addr)(xs t:List Int)(H:Hp)(m:Nat)(σ:St)(L:Hp):Prop:=∃i,m=xs.length-i/\i<=xs.length/\σ=[some (.ref r),some (.int xs.length),some (.ref p)]/\Mv [r] H L/\Q5 C r a L (((Ah xs).drop i).flatten++t)/\L p=some (.lst ((xs.take i).map V.int))
theorem QaA{gn gh:Addr}{dn dh:FuncData}(F:Fun K "next_rising" "Reader.next_rising" ZP f fd)(T:Txt mg)(clR:Cls K C)(mRN:Meth K C "next_number" gn)(GRN:FnOk P w K mg bs0 x8 2 gn dn ["self"] (Y2 C))(bRN:Binds K dn ["self"] [])
  (mRH:Meth K C "next_behind" gh)(GRH:FnOk P w K mg bs0 x8 3 gh dh ["self","numbers"] (FP C))(bRH:Binds K dh ["self","numbers"] []):FnOk P w K mg bs0 x8 4 f fd ["self"] (FL C):=by
 refine F.ok Sy (fun vs H Q E h=> ?_) (fun H9 A outer s H vs Q E hr h=> ?_)
 ·obtain⟨r,a,xs,t,rfl,_⟩:=h
  rfl
 obtain⟨r,a,xs,t,rfl,hR,⟨hup,hxb,De⟩,q⟩:=h
 have hr2:Room 2 _:=hr.mono (by decide)
 refine⟨_,(c6 (i8 (i:=1) Sy.nd rfl (Or.inl rfl) (A6 (i6 0) clR mRN GRN hr2 bRN .nil j3))
  (c6 (i8 (i:=2) Sy.nd rfl (Or.inl rfl) (B4 c8))
  (c6 (V5 o8 (o4 Dc (j6 (Ba K) rfl T.len A9 (c4 (i6 2) c8)) (i6 1) (q5 _))
   (e7 (q0 (Ca K B6 N0 M8 y8 (i6 2) (c4 (X6 (i6 0) clR mRH GRH hr bRH .nil j3 (c4 (i6 2) c8)) c8)))))
  (e7 (l6 (i6 2)))))),?_⟩
 and_intros
 simpa only[↓C8,↓Cg,Y2]
 obtain⟨dx,k,hr'⟩:=hR.ins
 refine⟨dx,_,hr',rfl,a,xs.length,(Ah xs).flatten++t,by unfold O7 at hR;rw[o5] at hR;exact hR,fun H1 m1 hR1=>⟨by decide,fun p hp=> ?_⟩⟩
 obtain⟨dx1,k1,hr1'⟩:=hR1.ins
 have hpH:H p=none:=m1.free hr1' hp
 obtain⟨npr,npa⟩:=hR1.nr hp
 refine⟨QbA C r a p xs t H,⟨xs.length,0,rfl,x5 _,rfl,m1.trans (Mv.of (d0 hp _)),hR1.put npr npa,by rw[c5];rfl⟩,?_⟩
 rintro m σ L ⟨i,rfl,hi,rfl,mL,hRL,hpL⟩
 simpa only[↓C8,↓Sr,FP]
 refine⟨_, .inl (o6.of hpL),?_⟩
 have Ma:((xs.take i).map V.int).length=i:=by rw[i5,I9];omega
 rw[Ma]
 refine O3 (fun c=> ?_) (fun c=> ?_)
 ·have T8:i<xs.length:=by have:=A2 c;omega
  have hx:xs[i]? =some xs[i]:=u9 T8
  have Lp:=hup.at_ hx
  have hb:=hxb _ (BK T8)
  obtain⟨dx2,k2,hr2'⟩:=hRL.ins
  refine⟨fun σ' H'=>∃m',m'<xs.length-i/\QbA C r a p xs t H m' σ' H',fun _ _ h=>h, .inl ⟨rfl,_,o6.of hpL⟩,dx2,_,hr2',rfl,a,xs.take i,xs[i],((Ah xs).drop (i+1)).flatten++t,?_,hpL,Lp.2.1,fun Ig=>Lp.2.2 (Vr fun z=>Ig (by rw[z];rfl)),fun H3 m3 hR3=> ?_⟩
  ·rw[Bu (Ce hx),o5] at hRL
   exact hRL
  ·refine⟨_,m3.at_ hpL npr,by rw[Ma];exact Ag (by omega),xs.length-(i+1),by omega,i+1,rfl,T8,rfl,(mL.trans m3).new hpH,hR3.put npr npa,?_⟩
   rw[c5,q9,hx,n4]
   rfl
 ·have Na:i=xs.length:=by simp at c;omega
  rw[Na,B7] at hpL
  rw[Na,EO (by rw[As];exact l9 _)] at hRL
  exact q p L mL hpH hRL hpL
theorem SE:FnScope ["self","many","makes","found","places"] ["self"] (i7 sNP):=by ac_rfl
def wNP(C r a ma p:Addr)(rw:Rw)(t:List Int)(H:Hp)(m:Nat)(σ:St)(L:Hp):Prop:=∃(i:Nat) (ys:List V) (v4:Option V),m=rw.length-i/\i<=rw.length/\σ=[some (.ref r),some (.int rw.length),some (.ref ma),some (.ref p),v4]/\Mv [r] H L/\Q5 C r a L (((X5 rw).drop i).flatten++t)/\L ma=some (.lst (((rw.map (·.1)).take i).map V.int))/\L p=some (.lst ys)/\i3 (DG [ma,p] (nw H L)) ((rw.take i).map Df) ys
theorem Qcl{gn gh gr:Addr}{dn dh dr:FuncData}(F:Fun K "next_postings" "Reader.next_postings" sNP f fd)(T:Txt mg)(clR:Cls K C)(mRN:Meth K C "next_number" gn)(GRN:FnOk P w K mg bs0 x8 2 gn dn ["self"] (Y2 C))(bRN:Binds K dn ["self"] [])
  (mRH:Meth K C "next_behind" gh)(GRH:FnOk P w K mg bs0 x8 3 gh dh ["self","numbers"] (FP C))(bRH:Binds K dh ["self","numbers"] [])(mRR:Meth K C "next_rising" gr)(GRR:FnOk P w K mg bs0 x8 4 gr dr ["self"] (FL C))(bRR:Binds K dr ["self"] []):FnOk P w K mg bs0 x8 5 f fd ["self"] (Sf C):=by
 refine F.ok SE (fun vs H Q E h=> ?_) (fun H9 A outer s H vs Q E hr h=> ?_)
 ·obtain⟨r,a,rw,t,rfl,_⟩:=h
  rfl
 obtain⟨r,a,rw,t,rfl,hR,⟨hok,hnum,hrl,_⟩,q⟩:=h
 have hr2:Room 2 _:=hr.mono (by decide)
 have hr3:Room 3 _:=hr.mono (by decide)
 refine⟨_,(c6 (i8 (i:=1) SE.nd rfl (Or.inl rfl) (A6 (i6 0) clR mRN GRN hr2 bRN .nil j3))
  (c6 (i8 (i:=2) SE.nd rfl (Or.inl rfl) (B4 c8))
  (c6 (i8 (i:=3) SE.nd rfl (Or.inl rfl) (B4 c8))
  (c6 (V5 o8 (o4 Dc (j6 (Ba K) rfl T.len A9 (c4 (i6 2) c8)) (i6 1) (q5 _))
   (c6 (q0 (Ca K B6 N0 M8 y8 (i6 2) (c4 (X6 (i6 0) clR mRH GRH hr3 bRH .nil j3 (c4 (i6 2) c8)) c8)))
  (c6 (i8 (i:=4) SE.nd rfl (Or.inl rfl) (A6 (i6 0) clR mRR GRR hr bRR .nil j3))
  (c6 (C4 (Q7 (Cn (i6 4) (fun _=>rfl))) (e7 Q8) o7)
  (e7 (q0 (Ca K B6 N0 M8 y8 (i6 3) (c4 (P8 (c4 (N7 (Lj K) (i6 2) (HU Er j0) (fun _ _=>rfl)) (c4 (i6 4) c8))) c8))))))))
  (e7 (l6 (i6 3))))))),?_⟩
 and_intros
 simpa only[↓C8,↓Cg,Y2,↓X1]
 obtain⟨dx,k,hr'⟩:=hR.ins
 refine⟨dx,_,hr',rfl,a,rw.length,(X5 rw).flatten++t,by unfold W4 at hR;rw[o5] at hR;exact hR,fun H1 m1 hR1=>⟨by decide,fun ma hma=>⟨by decide,fun p hp=> ?_⟩⟩⟩
 obtain⟨dx1,k1,hr1'⟩:=hR1.ins
 obtain⟨nmr,nma⟩:=hR1.nr hma
 have hR2:=hR1.put (o:= .lst []) nmr nma
 obtain⟨npr,npa⟩:=hR2.nr hp
 have npm:p≠ma:=fun z=>by rw[z,c5] at hp;cases hp
 have hmH:H ma=none:=m1.free hr1' hma
 have hpH:H p=none:=m1.free hr1' (by rwa [i4 npm] at hp)
 refine⟨wNP C r a ma p rw t H,⟨rw.length,0,[],_,rfl,x5 _,rfl,(m1.new hmH).new hpH,hR2.put npr npa,by rw[i4 npm.symm,c5];rfl,c5,i3.nil⟩,?_⟩
 rintro m σ L ⟨i,ys,v4,rfl,hi,rfl,mL,hRL,hmL,hpL,hD⟩
 simpa only[↓C8,↓Sr,FP,↓RY,FL,↓X1]
 refine⟨_, .inl (o6.of hmL),?_⟩
 have Ma:(((rw.map (·.1)).take i).map V.int).length=i:=by rw[i5,I9,i5];omega
 have LX:ys.length=i:=by have:=hD.length;rw[i5,I9] at this;omega
 rw[Ma]
 refine O3 (fun c=> ?_) (fun c=> ?_)
 ·have T8:i<rw.length:=by have:=A2 c;omega
  have hx:rw[i]? =some rw[i]:=u9 T8
  have hxr:=BK T8
  generalize rw[i]=x at hx hxr
  have Lm:(rw.map (·.1))[i]? =some x.1:=by rw[u8,hx];rfl
  have Lp:=hok.1.at_ Lm
  obtain⟨hx1,OS⟩:=hnum x hxr
  obtain⟨Ig,_⟩:=hok.2 x hxr
  obtain⟨dx2,k2,hr2'⟩:=hRL.ins
  refine⟨fun σ' H'=>∃m',m'<rw.length-i/\wNP C r a ma p rw t H m' σ' H',fun _ _ h=>h, .inl ⟨rfl,_,o6.of hmL⟩,dx2,_,hr2',rfl,a,(rw.map (·.1)).take i,x.1,O7 x.2++(((X5 rw).drop (i+1)).flatten++t),?_,hmL,Lp.2.1,fun Ig=>Lp.2.2 (Vr fun z=>Ig (by rw[z];rfl)),fun H3 m3 hR3=>⟨_,m3.at_ hmL nmr,by rw[Ma];exact Ag (by omega),?_⟩⟩
  ·rw[Bu (CO hx),o5,o5] at hRL
   exact hRL
  have em:((rw.map (·.1)).take i).map V.int++[V.int x.1]=((rw.map (·.1)).take (i+1)).map V.int:=by rw[q9,Lm,n4];rfl
  rw[em]
  have hR4:=hR3.put (o:= .lst (((rw.map (·.1)).take (i+1)).map V.int)) nmr nma
  have hm4:(upd H3 ma (.lst (((rw.map (·.1)).take (i+1)).map V.int))) ma=_:=c5
  have hp4:(upd H3 ma (.lst (((rw.map (·.1)).take (i+1)).map V.int))) p=some (.lst ys):=by rw[i4 npm];exact m3.at_ hpL npr
  have m4:Mv [r,ma,p] L (upd H3 ma (.lst (((rw.map (·.1)).take (i+1)).map V.int))):=(m3.sub (by simp)).upd (by simp)
  have mL4:=((mL.trans m3).new (o:= .lst (((rw.map (·.1)).take (i+1)).map V.int)) hmH)
  generalize upd H3 ma (.lst (((rw.map (·.1)).take (i+1)).map V.int))=L4 at hR4 hm4 hp4 m4 mL4⊢
  obtain⟨dx4,k4,hr4'⟩:=hR4.ins
  refine⟨dx4,_,hr4',rfl,a,x.2,((X5 rw).drop (i+1)).flatten++t,hR4,OS,fun pl L5 m5 Hf hR5 hplv=>⟨!x.2.isEmpty, .inl ⟨_,o6.of hplv,by cases x.2<;>rfl⟩,?_⟩⟩
  have hm5:=m5.at_ hm4 nmr
  have hp5:=m5.at_ hp4 npr
  have e1:((!(!x.2.isEmpty))=true)=False:=by cases hx2:x.2 with
   |nil=>exact absurd hx2 Ig
   |cons y r=>simp
  rw[if_neg (by rw[e1];exact id)]
  obtain⟨dx5,k5,hr5'⟩:=hR5.ins
  have n5:∀{b u},L4 b=some u->b≠pl:=fun h=>k9 h Hf
  have nt:(rw.map (·.1)).take (i+1)≠[]:=fun z=>by
   have h:((rw.map (·.1)).take (i+1)).length=i+1:=by rw[I9,i5];omega
   rw[z] at h
   cases h
  have el:((rw.map (·.1)).take (i+1)).getLastD 0=x.1:=AQ Lm
  refine⟨.inl ⟨rfl,_,o6.of hp5⟩,_,o6.of hm5,_,OL nt,by decide,fun tp He=>⟨_,k7 hp5 He,by rw[LX];exact Ag (by omega),rw.length-(i+1),by omega,i+1,ys++[.ref tp],_,rfl,T8,rfl,((mL4.trans m5).new ?_).new hpH,?_,?_,c5,?_⟩⟩
  ·exact(mL4.trans m5).free hr5' He
  ·obtain⟨n1,n2⟩:=hR5.nr He
   exact(hR5.put n1 n2).put npr npa
  ·rw[i4 npm.symm]
   exact k7 hm5 He
  ·have ed:(rw.take (i+1)).map Df=(rw.take i).map Df++[Df x]:=by rw[q9,hx,n4];rfl
   rw[ed]
   have n6:∀{b u},L5 b=some u->tp≠b:=fun h z=>by rw[z,h] at He;cases He
   have htH:=(mL4.trans m5).free hr5' He
   have hplH:=mL4.free hr4' Hf
   refine(i3.same (nwo hr' (((m4.trans (m5.sub (by simp))).trans (Mv.of (d0 He _))).upd (by simp))) _ _ hD).app (i3.one ?_)
   have npl:pl≠p:=(n5 hp4).symm
   refine Nf (m:=x.1) (ps:=x.2) (p:=tp) (l:=pl) (AA (C6 (by rw[i4 (n6 hp5),c5,el]) htH) ?_) (AA (C6 (by rw[i4 npl];exact k7 hplv He) hplH) ?_)
   ·simp [n6 hm5,n6 hp5]
   ·simp [(n5 hm4).symm,npl]
 ·have Na:i=rw.length:=by simp at c;omega
  rw[Na,B7] at hD
  rw[Na,EO (by rw[Bz];exact l9 _)] at hRL
  exact q p ys L mL hpH hRL hpL (i3.same Bq _ _ hD)
theorem Qc9:FnScope ["byte"] ["byte"] (i7 sSg):=by ac_rfl
theorem Qcb(F:Fun K "sign_of_byte" "sign_of_byte" sSg f fd)(T:Txt mg):FnOk P w K mg bs0 x8 1 f fd ["byte"] RX:=by
 refine F.ok Qc9 (fun vs H Q E h=> ?_) (fun H9 A outer s H vs Q E hr h=> ?_)
 ·obtain⟨b,rfl,_⟩:=h
  rfl
 obtain⟨b,rfl,b0,⟨c1,c2,c3⟩,q⟩:=h
 obtain⟨tF,hF⟩:=T.first
 obtain⟨tL,hLS⟩:=T.lastS
 obtain⟨tN,hNS⟩:=T.noS
 obtain⟨tS,hSg⟩:=T.signs
 refine⟨_,(c6 (C4 (PW.pt (Bp (o4 Dc (i6 0) (U5 rfl hF) (q5 _)) (Bp (o4 HW (i6 0) (U5 rfl hLS) (q5 _)) (Aw (o4 Dd (i6 0) (U5 rfl hNS) (q5 _)))))) (e7 Q8) o7)
  (e7 (l6 (N7 Gg (WJ rfl hSg) (k8 Cs (i6 0) (U5 rfl hF)) (fun _ _=>rfl))))),?_⟩
 and_intros
 simpa only[↓X1]
 refine O3 (fun z=> ?_) (fun z1=>O3 (fun z=> ?_) (fun z2=>O3 (fun z=> ?_) (fun z3=> ?_)))
 ·have:=A2 z
  omega
 ·have:=A2 z
  omega
 ·have:=A2 z
  omega
 refine⟨by decide+kernel,b.toNat,?_,q⟩
 rw[show b-32=((b.toNat-32:Nat):Int) by omega]
 exact V9 (QbS b.toNat (by omega) (by omega) (by omega))
theorem ZK:FnScope ["self","many","signs"] ["self"] (i7 sNT):=by ac_rfl
def wNT(C r a p:Addr)(z:Str)(t:List Int)(H:Hp)(m:Nat)(σ:St)(L:Hp):Prop:=∃i,m=z.length-i/\i<=z.length/\σ=[some (.ref r),some (.int z.length),some (.ref p)]/\Mv [r] H L/\Q5 C r a L ((z.cps.toList.drop i).map Int.ofNat++t)/\L p=some (.lst ((Dq (z.cps.toList.take i)).map V.str))
theorem Qck{gn gb gs:Addr}{dn db ds:FuncData}(F:Fun K "next_text" "Reader.next_text" sNT f fd)(T:Txt mg)(clR:Cls K C)(mRN:Meth K C "next_number" gn)(GRN:FnOk P w K mg bs0 x8 2 gn dn ["self"] (Y2 C))(bRN:Binds K dn ["self"] [])
  (mRB:Meth K C "next_byte" gb)(GRB:FnOk P w K mg bs0 x8 1 gb db ["self"] (Ci C))(bRB:Binds K db ["self"] [])(GSg:FnOk P w K mg bs0 x8 1 gs ds ["byte"] RX)(bSg:Binds K ds ["byte"] [])(kSg:PySem.W.keepIn K (.ref gs)=true)(mSg:mg "sign_of_byte"=some (.ref gs)):FnOk P w K mg bs0 x8 3 f fd ["self"] (Mw C):=by
 refine F.ok ZK (fun vs H Q E h=> ?_) (fun H9 A outer s H vs Q E hr h=> ?_)
 ·obtain⟨r,a,z,t,rfl,_⟩:=h
  rfl
 obtain⟨r,a,z,t,rfl,hR,hz,hsg,q⟩:=h
 have hr1:Room 1 _:=hr.mono (by decide)
 refine⟨_,(c6 (i8 (i:=1) ZK.nd rfl (Or.inl rfl) (A6 (i6 0) clR mRN GRN hr bRN .nil j3))
  (c6 (i8 (i:=2) ZK.nd rfl (Or.inl rfl) (B4 c8))
  (c6 (V5 o8 (o4 Dc (j6 (Ba K) rfl T.len A9 (c4 (i6 2) c8)) (i6 1) (q5 _))
   (e7 (q0 (Ca K B6 N0 M8 y8 (i6 2) (c4 (i9 GSg hr1 rfl mSg kSg bSg .nil j3 (c4 (A6 (i6 0) clR mRB GRB hr1 bRB .nil j3) c8)) c8)))))
  (e7 (l6 (Ca K EQ Nn Nm (Jl K) A5 (c4 (i6 2) c8))))))),?_⟩
 and_intros
 simpa only[↓C8,↓Cg,Y2]
 obtain⟨dx,k,hr'⟩:=hR.ins
 refine⟨dx,_,hr',rfl,a,z.length,z.cps.toList.map Int.ofNat++t,by unfold A8 at hR;rw[o5] at hR;exact hR,fun H1 m1 hR1=>⟨by decide,fun p hp=> ?_⟩⟩
 obtain⟨dx1,k1,hr1'⟩:=hR1.ins
 have hpH:H p=none:=m1.free hr1' hp
 obtain⟨npr,npa⟩:=hR1.nr hp
 refine⟨wNT C r a p z t H,⟨z.length,0,rfl,x5 _,rfl,m1.trans (Mv.of (d0 hp _)),hR1.put npr npa,by rw[c5];rfl⟩,?_⟩
 rintro m σ L ⟨i,rfl,hi,rfl,mL,hRL,hpL⟩
 simpa only[↓C8,↓IQ,Ci,↓QbK,RX]
 refine⟨_, .inl (o6.of hpL),?_⟩
 have Ma:((Dq (z.cps.toList.take i)).map V.str).length=i:=by rw[i5,i5,I9,P7];omega
 rw[Ma]
 refine O3 (fun c=> ?_) (fun c=> ?_)
 ·have T8:i<z.cps.toList.length:=by rw[P7];have:=A2 c;omega
  have hx:z.cps.toList[i]? =some z.cps.toList[i]:=u9 T8
  have hc:=hsg _ (BK T8)
  rw[AE T8] at hRL
  generalize z.cps.toList[i]=ch at hx hc hRL
  obtain⟨dx2,k2,hr2'⟩:=hRL.ins
  refine⟨fun σ' H'=>∃m',m'<z.length-i/\wNT C r a p z t H m' σ' H',fun _ _ h=>h, .inl ⟨rfl,_,o6.of hpL⟩,dx2,_,hr2',rfl,a,(ch:Int),(z.cps.toList.drop (i+1)).map Int.ofNat++t,hRL,by omega,by have:=hc.2.1;omega,fun H3 m3 hR3=>⟨by omega,hc,?_⟩⟩
  rw[P7] at T8
  refine⟨_,m3.at_ hpL npr,by rw[Ma];exact Ag (by omega),z.length-(i+1),by omega,i+1,rfl,T8,rfl,(mL.trans m3).new hpH,hR3.put npr npa,?_⟩
  rw[c5,q9,hx]
  simp [Dq]
 ·have Na:i=z.length:=by simp at c;omega
  have ht:z.cps.toList.take i=z.cps.toList:=by rw[Na,<-P7,B7]
  rw[ht] at hpL
  rw[Na,<-P7,List.drop_length] at hRL
  refine⟨rfl,"",p,Dq z.cps.toList,1,rfl,rfl,o6.of hpL,fun y hy=> ?_,by rw[i5,P7];omega,by decide,?_⟩
  ·obtain⟨c,_,rfl⟩:=y9.mp hy
   exact l9 _
  ·rw[Ui]
   exact q L mL hRL
end
def Ox(r:Rw):List (Int×Int):=r.flatMap fun q=>q.2.map fun p=>(q.1,p)
def MI(D:Wt Str):List (Int×Int):=D.flatMap fun x=>Ox x.2
def Dg(ms:List Mk)(f:Str):Wt Str:=(keysOf ms f).map fun w=>(w,A1 ms f w)
def Q9(ms:List Mk)(f:Str):List (D7×V):=ms.map fun m=>(.inl m.1, .int (U7 ms m.1 f))
theorem WH(r:Rw):(Ox r).length=W2 r:=by
 unfold Ox W2
 rw[Vq]
 congr 1
 exact Af fun q _=>i5 _
theorem WF{ms:List Mk}(h:mw (-1) ms)(f:Str):(MI (Dg ms f)).length=IF ms f:=by
 rw[<-Mh h,MI,Dg,Vq,K8]
 congr 1
 exact Af fun w _=>WH _
theorem WG{r:Rw}{y:Int×Int}(h:y∈Ox r):∃q∈r,q.1=y.1/\y.2∈q.2:=by
 obtain⟨q,hq,hy⟩:=GQ.mp h
 obtain⟨p,hp,rfl⟩:=y9.mp hy
 exact⟨q,hq,rfl,hp⟩
theorem Ti{ms:List Mk}(h:mw (-1) ms){f w:Str}{y:Int×Int}(hy:y∈Ox (A1 ms f w)):∃m∈ms,m.1=y.1/\0<=y.2/\y.2<(Dj m f).length/\(Dj m f)[y.2.toNat]? =some w:=by
 obtain⟨q,hq,e,hp⟩:=WG hy
 obtain⟨m,hm,e1,e2⟩:=(Bo h f w).2 q hq
 rw[e2] at hp
 have:=Cp hp
 exact⟨m,hm,e1.trans e,this.1,by omega,by have:=this.2.2;rwa [Int.sub_zero] at this⟩
theorem Jj{α β:Type}{g:α->List β}:∀{l:List α},(∀x∈l,(g x).Nodup)->l.Pairwise (fun x y=>∀b∈g x,b∉g y)->(l.flatMap g).Nodup
 |[],_,_=>AF
 |x::l,h,p=>by
  rw[DB] at p
  rw[GR,Dw]
  refine⟨h x C0,Jj (fun y hy=>h y (D5 _ hy)) p.2,fun a ha b hb e=> ?_⟩
  obtain⟨y,hy,hb⟩:=GQ.mp hb
  exact p.1 y hy a ha (by rw[e];exact hb)
theorem Qap{r:Rw}(h:XJ r):(Ox r).Nodup:=by
 refine Jj (fun q hq=> ?_) ?_
 ·have:=(h.2 q hq).2.2
  refine JK.mpr (this.imp fun{a b} z e=> ?_)
  have:=congrArg Prod.snd e
  simp only at this
  omega
 ·have:=JK.mp h.1.2
  refine this.imp fun{a b} z y hy hy'=> ?_
  obtain⟨p,_,rfl⟩:=y9.mp hy
  obtain⟨p',_,e⟩:=y9.mp hy'
  have:=congrArg Prod.fst e
  simp only at this
  omega
theorem Qa1{ms:List Mk}(h:mw (-1) ms){m m':Mk}(a:m∈ms)(b:m'∈ms)(e:m.1=m'.1):m=m':=by
 have nd:=(V6 h).2
 obtain⟨i,hi⟩:=Bj.mp a
 obtain⟨j,hj⟩:=Bj.mp b
 obtain⟨hi1,hi2⟩:=D9.mp hi
 obtain⟨hj1,hj2⟩:=D9.mp hj
 have:i=j:=by
  refine(List.getElem_inj (h₀:=by rw[i5];exact hi1) (h₁:=by rw[i5];exact hj1) nd).mp ?_
  rw[List.getElem_map,List.getElem_map,hi2,hj2,e]
 subst this
 rw[<-hi2,<-hj2]
theorem Qao{ms:List Mk}(h:mw (-1) ms)(f:Str):(MI (Dg ms f)).Nodup:=by
 refine Jj (fun x hx=> ?_) ?_
 ·obtain⟨w,_,rfl⟩:=y9.mp hx
  exact Qap (Bo h f w).1
 ·refine JK.mpr ((Fv ms f).imp fun{a b} ne y hy hy'=> ?_)
  obtain⟨m,hm,e1,_,_,e2⟩:=Ti h hy
  obtain⟨m',hm',e1',_,_,e2'⟩:=Ti h hy'
  have:=Qa1 h hm hm' (e1.trans e1'.symm)
  rw[this,e2'] at e2
  exact ne (Ab e2).symm
theorem Lv{α β:Type}{g:α->List β}{l:List α}{i:Nat}{x:α}{s:List β}(h:l[i]? =some x)(p:s<+:g x):(l.take i).flatMap g++s<+:l.flatMap g:=by
 obtain⟨t,ht⟩:=p
 obtain⟨hi,e⟩:=D9.mp h
 refine⟨t++(l.drop (i+1)).flatMap g,?_⟩
 rw[o5,<-o5 s,ht,<-e]
 have:=congrArg (List.flatMap g) (Bh i l)
 rw[Nl,AE hi,GR] at this
 exact this
theorem Lg{ms:List Mk}{f:Str}{m:Mk}(hm:m∈ms):C7 (Q9 ms f) (.inl m.1)=some (.int (U7 ms m.1 f)):=by
 have key:∀{l:List Mk} {g:Int->Int},m∈l->C7 (l.map fun m=>((.inl m.1:D7),V.int (g m.1))) (.inl m.1)=some (.int (g m.1)):=by
  intro l g
  induction l with
  |nil=>intro h;cases h
  |cons x l ih=>
   intro h
   rw[List.map_cons]
   by_cases e:x.1=m.1
   ·rw[e,E5 rfl]
   ·rw[E6 (fun z=>e (Qbt z))]
    exact ih ((E8.mp h).resolve_left fun z=>e (by rw[z]))
 exact key (g:=fun k=>(U7 ms k f:Int)) hm
theorem Ue{ms:List Mk}(h:mw (-1) ms)(f:Str):(ms.map fun m=>(U7 ms m.1 f:Int)).sum=(IF ms f:Int):=by
 have e:(ms.map fun m=>(U7 ms m.1 f:Int))=ms.map fun m=>((Dj m f).length:Int):=Af fun m hm=>by rw[OG (V6 h).2 hm]
 rw[e,IF]
 have:∀l:List Mk,(l.map fun m=>((Dj m f).length:Int)).sum=((l.map fun m=>(Dj m f).length).sum:Nat):=by
  intro l
  induction l with
  |nil=>rfl
  |cons x l ih=>rw[List.map_cons,List.map_cons,K9,K9,ih];omega
 exact this ms
def LO(ms:List Mk)(f:Str)(T:LT):LT:=(Q9 ms f).foldl (fun T x=>Q3 T [x.1, .inr f] x.2) T
def Ej(f:Str)(v:Int->V)(l:List Mk)(T:LT):LT:=l.foldl (fun T x=>Q3 T [.inl x.1, .inr f] (v x.1)) T
theorem FB(ms:List Mk)(f:Str)(T:LT):LO ms f T=Ej f (fun k=> .int (U7 ms k f)) ms T:=List.foldl_map
theorem Gr{f g:Str}{v:Int->V}{k:Int}:∀{l:List Mk} {T:LT},¬(f=g/\k∈l.map (·.1))->C7 (Ej f v l T) [.inl k, .inr g]=C7 T [.inl k, .inr g]
 |[],T,_=>rfl
 |x::l,T,h=>by
  show C7 (Ej f v l (Q3 T [.inl x.1, .inr f] (v x.1))) _=_
  rw[Gr fun z=>h ⟨z.1,D5 _ z.2⟩,DM,if_neg fun e=>h ?_]
  cases e
  exact⟨rfl,C0⟩
theorem Ls{f:Str}{v:Int->V}{k:Int}:∀{l:List Mk} {T:LT},k∈l.map (·.1)->C7 (Ej f v l T) [.inl k, .inr f]=some (v k)
 |x::l,T,h=>by
  show C7 (Ej f v l (Q3 T [.inl x.1, .inr f] (v x.1))) _=_
  by_cases c:k∈l.map (·.1)
  ·exact Ls c
  ·have e:k=x.1:=(E8.mp h).resolve_right c
   rw[Gr fun z=>c z.2,e,DM,if_pos rfl]
theorem EK{f:Str}{v:Int->V}:∀{l:List Mk} {T:LT},(Ej f v l T).length<=T.length+l.length
 |[],T=>l9 _
 |x::l,T=>by
  have h1:=EK (f:=f) (v:=v) (l:=l) (T:=Q3 T [.inl x.1, .inr f] (v x.1))
  have h2:=W7 T [.inl x.1, .inr f] (v x.1)
  show (Ej f v l (Q3 T [.inl x.1, .inr f] (v x.1))).length<=_
  rw[List.length_cons]
  omega
theorem Xd{ms:List Mk}{k:Int}{g:Str}(d:k∉ms.map (·.1)):U7 ms k g=0:=X2 fun m hm=>if_neg fun z=>d (by rw[<-z];exact y9.mpr ⟨m,hm,rfl⟩)
theorem JZ{ms:List Mk}{f g:Str}{k:Int}{T:LT}(h:¬(f=g/\k∈ms.map (·.1))):LV (LO ms f T) k g=LV T k g:=by
 unfold LV
 rw[FB,Gr h]
def BS(ms:List Mk)(l:List Str)(T:LT):LT:=l.foldl (fun T f=>LO ms f T) T
theorem Ga{ms:List Mk}{g:Str}{k:Int}:∀{l:List Str} {T:LT},g∉l->LV (BS ms l T) k g=LV T k g
 |[],T,_=>rfl
 |x::l,T,h=>by
  show LV (BS ms l (LO ms x T)) k g=_
  rw[Ga fun z=>h (D5 _ z),JZ fun z=>h (by rw[<-z.1];exact C0)]
theorem Lh{ms:List Mk}{g:Str}{k:Int}:∀{l:List Str} {T:LT},g∈l->(k∉ms.map (·.1)->LV T k g= .int 0)->LV (BS ms l T) k g= .int (U7 ms k g)
 |x::l,T,h,h0=>by
  show LV (BS ms l (LO ms x T)) k g=_
  by_cases c:g∈l
  ·exact Lh c fun d=>by rw[JZ fun z=>d z.2];exact h0 d
  ·rw[Ga c]
   have e:g=x:=(E8.mp h).resolve_right c
   subst e
   by_cases d:k∈ms.map (·.1)
   ·unfold LV
    rw[FB,Ls d]
    rfl
   ·rw[JZ fun z=>d z.2,h0 d,Xd d]
    rfl
theorem Xw{ms:List Mk}(h:mw (-1) ms){f:Str}(hf:f∉j7 ms)(mk:Int):U7 ms mk f=0:=by
 refine X2 fun m hm=> ?_
 have:Dj m f=[]:=by
  cases e:Dj m f with
  |nil=>rfl
  |cons w r=>
   have hk:w∈keysOf ms f:=(CV h).mpr ⟨m,hm,by rw[e];exact C0⟩
   have hw:U8 ms f=[]:=Rv fun z=>hf ((C3 _).mem_iff.mpr z)
   unfold keysOf at hk
   rw[hw] at hk
   have:=(C3 (([]:Wt Str).map (·.1))).mem_iff.mp hk
   cases this
 rw[this]
 split<;>rfl
theorem Uf{ms:List Mk}(h:mw (-1) ms)(k:Int)(g:Str):LV (BS ms (j7 ms) []) k g=LV (BY [] ms) k g:=by
 rw[Uc h]
 by_cases c:g∈j7 ms
 ·exact Lh c fun _=>rfl
 ·rw[Ga c,Xw h c]
  rfl
theorem Ia{ms:List Mk}:∀{l:List Str} {T:LT},(BS ms l T).length<=T.length+l.length*ms.length
 |[],T=>by simp [BS]
 |x::l,T=>by
  have h1:=Ia (ms:=ms) (l:=l) (T:=LO ms x T)
  have h2:=EK (f:=x) (v:=fun k=> .int (U7 ms k x)) (l:=ms) (T:=T)
  rw[<-FB] at h2
  show (BS ms l (LO ms x T)).length<=_
  rw[List.length_cons,Nat.succ_mul]
  omega
def Kz:Sp:=fun vs H Q _=>∃(z:Str),vs=[.str z]/\z.length<=1000/\Ht z=true/\∀H',j9 H H'->Q (.bl true) H'
def ZC{v0:Str}{H:Hp}{Q:VK}{E:XK}:=show Kz [.str v0] H Q E=_ by
 simpa only[Kz]
 rfl
def Se(C:Addr):Sp:=fun vs H Q _=>∃(r:Addr) (ah:Str) (a:Addr) (z:Str) (t:List Int),vs=[.ref r, .str ah]/\Q5 C r a H (A8 z++t)/\z.length<=1000/\Ht z=true/\ah.cps.toList<z.cps.toList/\∀H',Mv [r] H H'->Q5 C r a H' t->Q (.str z) H'
def QbM{C:Addr}{v0:Addr}{v1:Str}{H:Hp}{Q:VK}{E:XK}:=show Se C [.ref v0, .str v1] H Q E=_ by
 simpa only[Se]
 rfl
def Sh(C:Addr):Sp:=fun vs H Q _=>∃(r:Addr) (ah:Str) (a:Addr) (z:Str) (t:List Int),vs=[.ref r, .str ah]/\Q5 C r a H (A8 z++t)/\z.length<=1000/\Az z=true/\ah.cps.toList<z.cps.toList/\∀H',Mv [r] H H'->Q5 C r a H' t->Q (.str z) H'
def QbP{C:Addr}{v0:Addr}{v1:Str}{H:Hp}{Q:VK}{E:XK}:=show Sh C [.ref v0, .str v1] H Q E=_ by
 simpa only[Sh]
 rfl
def Sg(C:Addr):Sp:=fun vs H Q _=>∃(r l a:Addr) (ms:List Mk) (fl:Str) (t:List Int),vs=[.ref r, .ref l]/\Ok ms/\H l=some (.lst ((ms.map (·.1)).map V.int))/\Q5 C r a H ((E3 ms fl).flatten++t)/\∀d H',Mv [r] H H'->H d=none->Q5 C r a H' t->H' d=some (.dK (Q9 ms fl))->Q (.ref d) H'
def QbO{C:Addr}{v0:Addr}{v1:Addr}{H:Hp}{Q:VK}{E:XK}:=show Sg C [.ref v0, .ref v1] H Q E=_ by
 simpa only[Sg]
 rfl
def KF:Sp:=fun vs H Q _=>∃(N:Addr) (fl:Str) (d:Addr) (ms:List Mk) (T:LT),vs=[.ref N, .str fl, .ref d]/\Ok ms/\H N=some (.dT T)/\T.length<=100000/\H d=some (.dK (Q9 ms fl))/\∀H',Mv [N] H H'->H' N=some (.dT (LO ms fl T))->Q .non H'
def ZE{v0:Addr}{v1:Str}{v2:Addr}{H:Hp}{Q:VK}{E:XK}:=show KF [.ref v0, .str v1, .ref v2] H Q E=_ by
 simpa only[KF]
 rfl
theorem Ze{c:Nat}(h:NK c=true):Yo c:=by
 unfold NK at h
 unfold Yo
 simp at h
 omega
theorem OB{z:Str}(h:Ht z=true):∀c∈z.cps.toList,Yo c:=fun c hc=>by
 unfold Ht at h
 rw[Q0] at h
 exact Ze (GF.mp h.2 c hc)
theorem OC{z:Str}(h:Az z=true):∀c∈z.cps.toList,Yo c:=fun c hc=>by
 unfold Az at h
 rw[Q0] at h
 have:=GF.mp h.2 c hc
 unfold EE at this
 have:=A2 this
 unfold Yo
 omega
section
variable {P:Program} {w:World} {K:n9} {mg:Str->Option Value} {bs0:Heap} {f:Addr} {fd:FuncData} {C:Addr}
theorem QbY:FnScope ["text"] ["text"] (i7 Wz):=by ac_rfl
def YF(z:Str)(H:Hp)(i:Nat)(ys:List V)(σ:St)(L:Hp):Prop:=∃v0:Option V,ys=((z.cps.toList.take i).map NK).map V.bl/\L=H/\σ=[v0]
theorem QaO{g g':Addr}{gd gd':FuncData}(F:Fun K "is_word" "is_word" Wz f fd)(T:Txt mg)(GS:FnOk P w K mg bs0 x8 1 g gd ["sign"] Bx)(bS:Binds K gd ["sign"] [])(kS:PySem.W.keepIn K (.ref g)=true)(mS:mg "is_small_letter"=some (.ref g))
  (GFg:FnOk P w K mg bs0 x8 1 g' gd' ["sign"] KA)(bFg:Binds K gd' ["sign"] [])(kFg:PySem.W.keepIn K (.ref g')=true)(mFg:mg "is_figure"=some (.ref g')):FnOk P w K mg bs0 x8 2 f fd ["text"] Kz:=by
 refine F.ok QbY (fun vs H Q E h=> ?_) (fun H9 A outer s H vs Q E hr h=> ?_)
 ·obtain⟨z,rfl,_⟩:=h
  rfl
 obtain⟨z,rfl,hz,hw,q⟩:=h
 unfold Ht at hw
 rw[Q0] at hw
 have h0:=A2 hw.1
 refine⟨_,(e7 (l6 (EA (Fs HW (j6 O4 rfl T.len A9 (c4 (i6 0) c8)) j0 (q5 _)) (Dp (j6 (LF K rfl) rfl T.all (by decide+kernel) (c4 (X7 (N:=["sign"]) (pick:=[none]) (NX:=["text"]) (sX:=i7 Wz) (by decide+kernel) rfl rfl rfl (Jc (i6 0))
    (fun _ _ _ _=>(j5 (i:=0) QaX rfl (Or.inl rfl))) (fun _ _ _ _=>R0) (fun _ _ _ _=>(Tp (i9 GS hr rfl mS kS bS .nil j3 (c4 (i6 0) c8)) (Dp (i9 GFg hr rfl mFg kFg bFg .nil j3 (c4 (i6 0) c8)))))) c8)))))),?_⟩
 and_intros
 simpa only[↓Uq]
 refine⟨T9 (by omega),O3 (fun _=> ?_) (fun c=>absurd (R8 (show (0:Int)<(z.length:Int) by omega)) c)⟩
 refine EM (YF z H) ⟨none,rfl,rfl,rfl⟩ ?_ ?_ ?_
 ·rintro i ys σ L hi ⟨v0,rfl,rfl,rfl⟩
  rw[i5,i5,I9,P7]
  exact T9 (by omega)
 ·rintro i c ys σ L hc ⟨v0,rfl,rfl,rfl⟩
  simpa only[Bx,KA]
  refine⟨c,rfl,?_⟩
  have fin:∀k,k=NK c->YF z L (i+1) (((z.cps.toList.take i).map NK).map V.bl++[V.bl k]) [some (V.str ⟨#[c]⟩)] L:=fun k e=>⟨_,by rw[q9,hc,n4,n4,e];rfl,rfl,rfl⟩
  refine O3 (fun h1=>fin _ ?_) (fun h1=>⟨c,rfl,fin _ ?_⟩)
  ·unfold NK;rw[h1];rfl
  ·unfold NK;rw[ER.mpr h1,Bool.false_or]
 ·rintro ys σ L ⟨v0,rfl,rfl,rfl⟩ p hp
  rw[<-P7,B7]
  refine⟨p,rfl,_,o6.of c5,?_⟩
  rw[show (z.cps.toList.map NK).all id=true by rw[List.all_map];exact hw.2]
  exact q _ (d0 hp _)
theorem QbW:FnScope ["reader","ahead","word"] ["reader","ahead"] (i7 sNW):=by ac_rfl
theorem Qcj{g1 g2:Addr}{d1 d2:FuncData}(F:Fun K "next_word" "next_word" sNW f fd)(clR:Cls K C)(mRT:Meth K C "next_text" g1)(GRT:FnOk P w K mg bs0 x8 3 g1 d1 ["self"] (Mw C))(bRT:Binds K d1 ["self"] [])
  (GIsW:FnOk P w K mg bs0 x8 2 g2 d2 ["text"] Kz)(bIsW:Binds K d2 ["text"] [])(kIsW:PySem.W.keepIn K (.ref g2)=true)(mIsW:mg "is_word"=some (.ref g2)):FnOk P w K mg bs0 x8 4 f fd ["reader","ahead"] (Se C):=by
 refine F.ok QbW (fun vs H Q E h=> ?_) (fun H9 A outer s H vs Q E hr h=> ?_)
 ·obtain⟨r,ah,a,z,t,rfl,_⟩:=h
  rfl
 obtain⟨r,ah,a,z,t,rfl,hR,hz,hw,T8,q⟩:=h
 have hr2:Room 2 _:=hr.mono (by decide)
 refine⟨_,(c6 (i8 (i:=2) QbW.nd rfl (Or.inl rfl) (A6 (i6 0) clR mRT GRT hr bRT .nil j3))
  (c6 (C4 (PW.pt (Bp (Q7 (Q6 (i9 GIsW hr2 rfl mIsW kIsW bIsW .nil j3 (c4 (i6 2) c8)))) (Aw (o4 U6 (i6 2) (i6 1) (q5 _))))) (e7 Q8) o7)
  (e7 (l6 (i6 2))))),?_⟩
 and_intros
 simpa only[↓C8,↓Ym,Mw,↓ZC,Kz,↓X1]
 obtain⟨dx,k,hr'⟩:=hR.ins
 refine⟨dx,_,hr',rfl,a,z,t,hR,hz,OB hw,fun H1 m1 hR1=>⟨hz,hw,fun H2 s2=> ?_⟩⟩
 rw[R8 T8,if_neg (by decide),if_neg (by decide)]
 exact q H2 (m1.trans (Mv.of s2)) (hR1.same s2)
theorem QbX:FnScope ["reader","ahead","field"] ["reader","ahead"] (i7 sNF):=by ac_rfl
theorem Qcn{g1 g2:Addr}{d1 d2:FuncData}(F:Fun K "next_field" "next_field" sNF f fd)(clR:Cls K C)(mRT:Meth K C "next_text" g1)(GRT:FnOk P w K mg bs0 x8 3 g1 d1 ["self"] (Mw C))(bRT:Binds K d1 ["self"] [])
  (GN:FnOk P w K mg bs0 x8 2 g2 d2 ["text"] Ch)(bN:Binds K d2 ["text"] [])(kN:PySem.W.keepIn K (.ref g2)=true)(mN:mg "is_name"=some (.ref g2)):FnOk P w K mg bs0 x8 4 f fd ["reader","ahead"] (Sh C):=by
 refine F.ok QbX (fun vs H Q E h=> ?_) (fun H9 A outer s H vs Q E hr h=> ?_)
 ·obtain⟨r,ah,a,z,t,rfl,_⟩:=h
  rfl
 obtain⟨r,ah,a,z,t,rfl,hR,hz,hw,T8,q⟩:=h
 have hr2:Room 2 _:=hr.mono (by decide)
 refine⟨_,(c6 (i8 (i:=2) QbX.nd rfl (Or.inl rfl) (A6 (i6 0) clR mRT GRT hr bRT .nil j3))
  (c6 (C4 (PW.pt (Bp (Q7 (Q6 (i9 GN hr2 rfl mN kN bN .nil j3 (c4 (i6 2) c8)))) (Aw (o4 U6 (i6 2) (i6 1) (q5 _))))) (e7 Q8) o7)
  (e7 (l6 (i6 2))))),?_⟩
 and_intros
 simpa only[↓C8,↓Ym,Mw,↓IP,Ch,↓X1]
 obtain⟨dx,k,hr'⟩:=hR.ins
 refine⟨dx,_,hr',rfl,a,z,t,hR,hz,OC hw,fun H1 m1 hR1=>⟨hz,fun H2 s2=> ?_⟩⟩
 rw[hw]
 rw[R8 T8,if_neg (by decide),if_neg (by decide)]
 exact q H2 (m1.trans (Mv.of s2)) (hR1.same s2)
theorem ZL:FnScope ["reader","makes","lengths","make"] ["reader","makes"] (i7 sNL):=by ac_rfl
def QcJ(C r l a d:Addr)(ms:List Mk)(fl:Str)(t:List Int)(H:Hp)(i:Nat)(σ:St)(L:Hp):Prop:=∃v3:Option V,σ=[some (.ref r),some (.ref l),some (.ref d),v3]/\Mv [r] H L/\Q5 C r a L (((E3 ms fl).drop i).flatten++t)/\L d=some (.dK ((Q9 ms fl).take i))
theorem Qcm{g1:Addr}{d1:FuncData}(F:Fun K "next_lengths" "next_lengths" sNL f fd)(T:Txt mg)(clR:Cls K C)(mRN:Meth K C "next_number" g1)(GRN:FnOk P w K mg bs0 x8 2 g1 d1 ["self"] (Y2 C))(bRN:Binds K d1 ["self"] []):FnOk P w K mg bs0 x8 3 f fd ["reader","makes"] (Sg C):=by
 refine F.ok ZL (fun vs H Q E h=> ?_) (fun H9 A outer s H vs Q E hr h=> ?_)
 ·obtain⟨r,l,a,ms,fl,t,rfl,_⟩:=h
  rfl
 obtain⟨r,l,a,ms,fl,t,rfl,ok,hl,hR,q⟩:=h
 refine⟨_,(c6 (i8 (i:=2) ZL.nd rfl (Or.inl rfl) R7)
  (c6 (x9 o8 rfl (r9 K (i6 1)) (j5 (i:=3) ZL.nd rfl (Or.inl rfl))
   (e7 (CQ (T4 hr) (i6 2) (i6 3) (A6 (i6 0) clR mRN GRN hr bRN .nil j3) rfl)))
  (e7 (l6 (i6 2))))),?_⟩
 and_intros
 simpa only[↓C8,↓Cg,Y2,↓Y5]
 intro d hd
 obtain⟨ndr,nda⟩:=hR.nr hd
 have nlr:∀{L:Hp} {dx fs},H l=some (.lst ((ms.map (·.1)).map V.int))->H r=some (.ins C dx fs)->l≠r:=fun h1 h2=>AO h1 h2 (by intro z;cases z)
 obtain⟨dx,k,hr'⟩:=hR.ins
 have nlr:l≠r:=AO hl hr' (by intro z;cases z)
 refine⟨⟨_,o6.of (k7 hl hd)⟩,w6 ((ms.map (·.1)).map V.int) (QcJ C r l a d ms fl t H) ⟨_,rfl,Mv.of (d0 hd _),hR.put ndr nda,by rw[c5];rfl⟩ ?_ ?_ ?_⟩
 ·rintro i σ L hi ⟨v3,rfl,mL,hRL,hdL⟩
  exact o6.of (mL.at_ hl nlr)
 ·rintro i y σ L hy ⟨v3,rfl,mL,hRL,hdL⟩
  obtain⟨mk,hk,rfl⟩:=AR hy
  have Ux:i<ms.length:=by have:=(D9.mp hk).1;rwa [i5] at this
  rw[u8] at hk
  obtain⟨m,hm,rfl⟩:=D3.mp hk
  have hb:(E3 ms fl)[i]? =some (nb (U7 ms m.1 fl)):=by unfold E3;rw[u8,hm];rfl
  have hx:(Q9 ms fl)[i]? =some (.inl m.1, .int (U7 ms m.1 fl)):=by unfold Q9;rw[u8,hm];rfl
  have hll:((Q9 ms fl).take i).length=i:=by rw[I9,Q9,i5];omega
  simpa only[↓C8,↓Cg,Y2,↓EY]
  obtain⟨dx2,k2,hr2'⟩:=hRL.ins
  rw[Bu hb,o5] at hRL
  refine⟨dx2,_,hr2',rfl,a,_,_,hRL,fun H3 m3 hR3=> ?_⟩
  have hd3:=m3.at_ hdL ndr
  have hn:C7 ((Q9 ms fl).take i) (.inl m.1)=none:=by
   cases e:C7 ((Q9 ms fl).take i) (.inl m.1) with
   |none=>rfl
   |some v=>
    have h1:=NN e
    have h2:((Q9 ms fl).take i).map (·.1)=((ms.map (·.1)).take i).map Sum.inl:=by
     unfold Q9
     rw[<-JJ,<-JJ,K8,K8]
     rfl
    rw[h2] at h1
    obtain⟨k,hk1,hk2⟩:=y9.mp h1
    have hk3:k=m.1:=Qbt hk2
    have nd:=(V6 ok.2.1).2
    have hi2:(ms.map (·.1))[i]? =some m.1:=by rw[u8,hm];rfl
    have nd2:((ms.map (·.1)).take (i+1)).Nodup:=nd.sublist (Ir _ _)
    rw[q9,hi2] at nd2
    rw[hk3] at hk1
    exact absurd rfl ((Dw.mp nd2).2.2 m.1 hk1 m.1 (by simp))
  have e0:V.int m.1=kV (.inl m.1):=rfl
  rw[e0]
  refine⟨_,Fk.k hd3 (by rw[hll];exact Ag (by have:=ok.1.1;omega)),_,rfl,(mL.trans m3).new hd,hR3.put ndr nda,?_⟩
  rw[c5,X4 _ hn,q9,hx]
  rfl
 ·rintro σ L ⟨v3,rfl,mL,hRL,hdL⟩
  simpa only[l8]
  have e1:((ms.map (·.1)).map V.int).length=ms.length:=by rw[i5,i5]
  rw[e1,Y0 (by rw[Q9,i5];exact l9 _)] at hdL
  rw[e1,EO (by rw[E3,i5];exact l9 _)] at hRL
  exact q d L mL hd hRL hdL
theorem Yr:FnScope ["lengths","field","field_lengths","make"] ["lengths","field","field_lengths"] (i7 Qaf):=by ac_rfl
def Qbf(N d:Addr)(fl:Str)(ms:List Mk)(T:LT)(o:Obj)(H:Hp)(i:Nat)(σ:St)(L:Hp):Prop:=∃v3:Option V,σ=[some (.ref N),some (.str fl),some (.ref d),v3]/\Mv [N,d] H L/\L d=some (.frz o (.dK (Q9 ms fl)))/\L N=some (.dT (Ej fl (fun k=> .int (U7 ms k fl)) (ms.take i) T))
theorem QaT(F:Fun K "add_lengths" "add_lengths" Qaf f fd):FnOk P w K mg bs0 x8 1 f fd ["lengths","field","field_lengths"] KF:=by
 refine F.ok Yr (fun vs H Q E h=> ?_) (fun H9 A outer s H vs Q E hr h=> ?_)
 ·obtain⟨N,fl,d,ms,T,rfl,_⟩:=h
  rfl
 obtain⟨N,fl,d,ms,T,rfl,ok,hN,hT,hd,q⟩:=h
 refine⟨_,(e7 (IY (x9 o8 rfl (Je (i6 2)) (j5 (i:=3) Yr.nd rfl (Or.inl rfl))
   (e7 (CQ (T4 hr) (i6 0) (P8 (c4 (i6 3) (c4 (i6 1) c8))) (Z1 (T4 hr) (i6 2) (i6 3) (fun _ _=>rfl)) rfl))))),?_⟩
 and_intros
 simpa only[↓NS,↓OR]
 have ndN:d≠N:=AO hd hN (by intro z;cases z)
 refine⟨_,hd,fun o=>EJ (Qbf N d fl ms T o H) ⟨_,rfl,Mv.refl.upd (by simp),c5,by rw[i4 ndN.symm];exact hN⟩ ?_ ?_ ?_⟩
 ·rintro i σ L ⟨v3,rfl,mL,hdL,hNL⟩
  exact hdL
 ·rintro i k v σ L hk ⟨v3,rfl,mL,hdL,hNL⟩
  unfold Q9 at hk
  rw[u8] at hk
  obtain⟨m,hm,e⟩:=D3.mp hk
  cases e
  have OV:=E7 hm
  have Ux:i<ms.length:=(D9.mp hm).1
  simpa only[↓DN,↓EY]
  have h1:=EK (f:=fl) (v:=fun k=> .int (U7 ms k fl)) (l:=ms.take i) (T:=T)
  rw[I9] at h1
  have h0:=ok.1.1
  refine⟨_, .inl ⟨_, .inl m.1, .inr ⟨o,hdL⟩,rfl,(Lg OV).symm⟩,by decide,fun tp He=>⟨_,Fk.t (k:=[.inl m.1, .inr fl]) (k7 hNL He) c5 (Ag (by omega)),_,rfl,(mL.trans (Mv.of (d0 He _))).upd (by simp),by rw[i4 ndN];exact k7 hdL He,?_⟩⟩
  rw[c5,q9,hm]
  unfold Ej
  rw[Dv]
  rfl
 ·rintro σ L ⟨v3,rfl,mL,hdL,hNL⟩
  have el:(Q9 ms fl).length=ms.length:=i5 _
  rw[el,B7,<-FB] at hNL
  refine⟨_, .inr ⟨d,o,_,hd,hdL,rfl⟩,q _ (fun b u hb e=> ?_) (by rw[i4 ndN.symm];exact hNL)⟩
  by_cases c:b=d
  ·rw[c,hd] at e
   rw[c,c5,e]
  ·rw[i4 c]
   exact mL b u (by simp [c];simpa using hb) e
end
def wbs(x:Str×Rw):List Int:=A8 x.1++W4 x.2
def DGd(D:Wt Str):Prop:=D≠[]/\D.length<=1000000/\(D.map (·.1)).Pairwise (fun a b=>a.cps.toList<b.cps.toList)/\∀x∈D,Ht x.1=true/\x.1.length<=1000/\x.2≠[]/\Pu x.2
def Kv(C:Addr):Sp:=fun vs H Q _=>∃(r a:Addr) (D:Wt Str) (t:List Int),vs=[.ref r]/\Q5 C r a H (nb D.length++((D.map wbs).flatten++t))/\DGd D/\∀d H',Mv [r] H H'->H d=none->Q5 C r a H' t->XN (nw H H') d D->Q (.ref d) H'
def Zy{C:Addr}{v0:Addr}{H:Hp}{Q:VK}{E:XK}:=show Kv C [.ref v0] H Q E=_ by
 simpa only[Kv]
 rfl
def Ky:Sp:=fun vs H Q _=>∃(l d:Addr) (ms:List Mk) (fl:Str),vs=[.ref l, .ref d]/\Ok ms/\l≠d/\H l=some (.dK (Q9 ms fl))/\XN H d (Dg ms fl)/\∀H',j9 H H'->Q .non H'
def ZB{v0:Addr}{v1:Addr}{H:Hp}{Q:VK}{E:XK}:=show Ky [.ref v0, .ref v1] H Q E=_ by
 simpa only[Ky]
 rfl
theorem Qbo{ms:List Mk}(h:Ok ms){f:Str}(hf:f∈j7 ms):DGd (Dg ms f):=by
 obtain⟨h1,_⟩:=Jw h.2.1 hf
 refine⟨fun z=>h1 (List.map_eq_nil_iff.mp z),by rw[Dg,i5];have:=Cw h f;omega,?_,fun x hx=> ?_⟩
 ·have:(Dg ms f).map (·.1)=keysOf ms f:=by unfold Dg;rw[K8];exact GO _
  rw[this]
  exact Xj ms f
 ·obtain⟨w,hw,rfl⟩:=y9.mp hx
  obtain⟨g1,g2⟩:=Ee h hw
  exact⟨g1,by show w.length<=1000;omega,Cv.mp hw,IX h f w⟩
theorem QE(ms:List Mk)(f:Str):(Dg ms f).map wbs=(keysOf ms f).map (O6 ms f):=by
 unfold Dg
 rw[K8]
 rfl
theorem EH{α:Type}{D:List (Str×α)}(nd:(D.map (·.1)).Nodup){i:Nat}{x:Str×α}(h:D[i]? =some x):get D x.1=some x.2:=by
 induction D generalizing i with
 |nil=>cases h
 |cons y D ih=>
  rw[List.map_cons,Y3] at nd
  cases i with
  |zero=>
   simp at h
   rw[h,KT.get,if_pos rfl]
  |succ i=>
   have h':D[i]? =some x:=by simpa using h
   rw[KT.get,if_neg fun e=>nd.1 (by rw[e];exact y9.mpr ⟨x,E7 h',rfl⟩)]
   exact ih nd.2 h'
theorem Yz{l:List Str}(h:l.Pairwise (fun a b=>a.cps.toList<b.cps.toList)):l.Nodup:=h.imp fun{a b} z e=>by rw[e] at z;exact List.lt_irrefl _ z
theorem XN.add{H:Hp}{d p:Addr}{D:Wt Str}{w:Str}{r:Rw}{xs:List V}(ra:Str->Addr)(hD:∀w r,get D w=some r->∃xs,H (ra w)=some (.lst xs)/\i3 H (r.map Df) xs)(hw:get D w=none)(hp:H p=some (.lst xs))(hx:i3 H (r.map Df) xs):(∀w' r',get (D++[(w,r)]) w'=some r'->∃xs,H (V8 ra w p w')=some (.lst xs)/\i3 H (r'.map Df) xs):=by
 intro w' r' e
 by_cases c:w'=w
 ·subst c
  rw[<-P4 hw (fun _=>r),J7] at e
  cases e
  exact⟨xs,by rw[G9];exact hp,hx⟩
 ·rw[<-P4 hw (fun _=>r),N4 _ _ c] at e
  rw[D0 c]
  exact hD w' r' e
section
variable {P:Program} {w:World} {K:n9} {mg:Str->Option Value} {bs0:Heap} {f:Addr} {fd:FuncData} {C:Addr}
theorem KJ:FnScope ["reader","many","by_word","word"] ["reader"] (i7 ZU):=by ac_rfl
def QbC(C r a d:Addr)(D:Wt Str)(t:List Int)(H:Hp)(m:Nat)(σ:St)(L:Hp):Prop:=∃(i:Nat) (ah:Str) (ra:Str->Addr),m=D.length-i/\i<=D.length/\σ=[some (.ref r),some (.int D.length),some (.ref d),some (.str ah)]/\Mv [r] H L/\Q5 C r a L (((D.map wbs).drop i).flatten++t)/\L d=some (.dK (P9 ra (D.take i)))/\(∀w r',get (D.take i) w=some r'->∃xs,DG [d] (nw H L) (ra w)=some (.lst xs)/\i3 (DG [d] (nw H L)) (r'.map Df) xs)/\(∀x,D[i]? =some x->ah.cps.toList<x.1.cps.toList)
theorem QaD{g1 g2 g3:Addr}{d1 d2 d3:FuncData}(F:Fun K "next_words" "next_words" ZU f fd)(T:Txt mg)(clR:Cls K C)(mRN:Meth K C "next_number" g1)(GRN:FnOk P w K mg bs0 x8 2 g1 d1 ["self"] (Y2 C))(bRN:Binds K d1 ["self"] [])
  (mRP:Meth K C "next_postings" g2)(GRP:FnOk P w K mg bs0 x8 5 g2 d2 ["self"] (Sf C))(bRP:Binds K d2 ["self"] [])
  (GNW:FnOk P w K mg bs0 x8 4 g3 d3 ["reader","ahead"] (Se C))(bNW:Binds K d3 ["reader","ahead"] [])(kNW:PySem.W.keepIn K (.ref g3)=true)(mNW:mg "next_word"=some (.ref g3)):FnOk P w K mg bs0 x8 6 f fd ["reader"] (Kv C):=by
 refine F.ok KJ (fun vs H Q E h=> ?_) (fun H9 A outer s H vs Q E hr h=> ?_)
 ·obtain⟨r,a,D,t,rfl,_⟩:=h
  rfl
 obtain⟨r,a,D,t,rfl,hR,⟨Ig,hDl,T8,hx⟩,q⟩:=h
 have hr2:Room 2 _:=hr.mono (by decide)
 have hr4:Room 4 _:=hr.mono (by decide)
 have nd:=Yz T8
 refine⟨_,(c6 (i8 (i:=1) KJ.nd rfl (Or.inl rfl) (A6 (i6 0) clR mRN GRN hr2 bRN .nil j3))
  (c6 (i8 (i:=2) KJ.nd rfl (Or.inl rfl) R7)
  (c6 (i8 (i:=3) KJ.nd rfl (Or.inl rfl) A5)
  (c6 (V5 o8 (o4 Dc (j6 CZ rfl T.len A9 (c4 (i6 2) c8)) (i6 1) (q5 _))
   (c6 (i8 (i:=3) KJ.nd rfl (Or.inl rfl) (i9 GNW hr4 rfl mNW kNW bNW .nil j3 (c4 (i6 0) (c4 (i6 3) c8))))
  (c6 (CQ (T4 hr) (i6 2) (i6 3) (A6 (i6 0) clR mRP GRP hr bRP .nil j3) rfl)
  (e7 (C4 (Q7 (Cn (Z1 (T4 hr) (i6 2) (i6 3) (fun _ _=>rfl)) (fun _=>rfl))) (e7 Q8) o7)))))
  (c6 (C4 (Q7 (Cn (i6 2) (fun _=>rfl))) (e7 Q8) o7)
  (e7 (l6 (i6 2)))))))),?_⟩
 and_intros
 simpa only[↓C8,↓Cg,Y2,↓Y5,↓X1]
 obtain⟨dx,k,hr'⟩:=hR.ins
 refine⟨dx,_,hr',rfl,a,_,_,hR,fun H1 m1 hR1 d hd=> ?_⟩
 obtain⟨dx1,k1,hr1'⟩:=hR1.ins
 have hdH:H d=none:=m1.free hr1' hd
 obtain⟨ndr,nda⟩:=hR1.nr hd
 refine⟨QbC C r a d D t H,⟨D.length,0,"",fun _=>0,rfl,x5 _,rfl,m1.new hdH,hR1.put ndr nda,by rw[c5];rfl,fun w r' e=>(by cases e),fun x e=> ?_⟩,?_⟩
 ·have:=(hx x (E7 e)).1
  unfold Ht at this
  rw[Q0] at this
  have:=A2 this.1
  rw[<-P7] at this
  cases hc:x.1.cps.toList with
  |nil=>rw[hc] at this;cases this
  |cons u r=>exact Nk _ _
 rintro m σ L ⟨i,ah,ra,rfl,hi,rfl,mL,hRL,hdL,OT,hah⟩
 simpa only[↓C8,↓QbM,Se,↓QbN,Sf,↓X1,↓EY,↓DN]
 refine⟨_,hdL,?_⟩
 have Ma:(P9 ra (D.take i)).length=i:=by rw[S8,I9];omega
 rw[Ma]
 refine O3 (fun c=> ?_) (fun c=> ?_)
 ·have hlt':i<D.length:=by have:=A2 c;omega
  have Xn:D[i]? =some D[i]:=u9 hlt'
  have Lm:=BK hlt'
  generalize D[i]=x at Xn Lm
  obtain⟨x1,x2,x3,x4⟩:=hx x Lm
  have hb:(D.map wbs)[i]? =some (wbs x):=by rw[u8,Xn];rfl
  rw[Bu hb] at hRL
  unfold wbs at hRL
  rw[o5,o5] at hRL
  refine⟨fun σ' H'=>∃m',m'<D.length-i/\QbC C r a d D t H m' σ' H',fun _ _ h=>h,a,x.1,_,hRL,x2,x1,hah x Xn,fun H3 m3 hR3=> ?_⟩
  obtain⟨dx3,k3,hr3'⟩:=hR3.ins
  refine⟨dx3,_,hr3',rfl,a,x.2,_,hR3,x4,fun p ys H4 m4 hp hR4 Xo hDp=> ?_⟩
  have hn:get (D.take i) x.1=none:=by
   cases e:get (D.take i) x.1 with
   |none=>rfl
   |some v=>
    have h1:=T5.mp (show (get (D.take i) x.1).isSome=true by rw[e];rfl)
    have nd2:((D.take (i+1)).map (·.1)).Nodup:=nd.sublist ((Ir _ _).map _)
    rw[q9,Xn,n4] at nd2
    exact absurd rfl ((Dw.mp nd2).2.2 x.1 h1 x.1 (by simp))
  have hd4:=m4.at_ (m3.at_ hdL ndr) ndr
  have QZ:C7 (P9 ra (D.take i)) (.inr x.1)=none:=by rw[E4,hn];rfl
  have e0:V.str x.1=kV (.inr x.1):=rfl
  rw[e0]
  refine⟨_,Fk.k hd4 (by rw[Ma];exact Ag (by omega)),?_⟩
  rw[X4 _ QZ]
  have kvE:P9 ra (D.take i)++[(.inr x.1, .ref p)]=P9 (V8 ra x.1 p) (D.take (i+1)):=by
   rw[q9,Xn]
   exact(Jo hn).symm
  rw[kvE]
  have hv2:C7 (P9 (V8 ra x.1 p) (D.take (i+1))) (.inr x.1)=some (.ref p):=by
   have hg:get (D.take (i+1)) x.1=some x.2:=EH (nd.sublist ((Ir _ _).map _)) (by rw[CK,if_pos (GK _)];exact Xn)
   rw[E4,hg]
   show some (V.ref (V8 ra x.1 p x.1))=_
   rw[G9]
  have npd:p≠d:=fun z=>by rw[z,m3.at_ hdL ndr] at hp;cases hp
  have npr:p≠r:=fun z=>by rw[z,hr3'] at hp;cases hp
  refine⟨_, .inl ⟨_, .inr x.1, .inl c5,rfl,hv2.symm⟩, !x.2.isEmpty, .inl ⟨ys,o6.of (by rw[i4 npd];exact Xo),?_⟩,?_⟩
  ·have:=hDp.length
   rw[i5] at this
   cases hx2:x.2 with
   |nil=>exact absurd hx2 x3
   |cons q r=>
    rw[hx2] at this
    cases ys with
    |nil=>cases this
    |cons=>rfl
  have e1:((!(!x.2.isEmpty))=true)=False:=by cases hx2:x.2 with
   |nil=>exact absurd hx2 x3
   |cons y r=>simp
  rw[if_neg (by rw[e1];exact id)]
  refine⟨D.length-(i+1),by omega,i+1,x.1,V8 ra x.1 p,rfl,hlt',rfl,(((mL.trans m3).trans m4).new hdH),hR4.put ndr nda,c5,?_,fun y hy=> ?_⟩
  ·have sO:j9 (DG [d] (nw H L)) (DG [d] (nw H (upd H4 d (.dK (P9 (V8 ra x.1 p) (D.take (i+1))))))):=nwo hr' (((m3.trans m4).sub (by simp)).upd (by simp))
   have fr:∀{b},H3 b=none->H b=none:=fun h=>(mL.trans m3).free hr3' h
   have:=XN.add (d:=d) (H:=DG [d] (nw H (upd H4 d (.dK (P9 (V8 ra x.1 p) (D.take (i+1))))))) (D:=D.take i) (w:=x.1) (p:=p) (r:=x.2) (xs:=ys) ra (fun w r' e=>let ⟨xs,h1,h2⟩:=OT w r' e;⟨xs,sO _ _ h1,i3.same sO _ _ h2⟩) hn (AA (C6 (by rw[i4 npd];exact Xo) (fr hp)) (by simp [npd])) ?_
   ·rw[q9,Xn]
    rw[q9,Xn] at this
    exact this
   ·refine i3.same (fun b u e=> ?_) _ _ hDp
    obtain⟨e1,e2⟩:=EZ e
    have nbd:b≠d:=fun z=>by rw[z,m3.at_ hdL ndr] at e2;cases e2
    exact AA (C6 (by rw[i4 nbd];exact e1) (fr e2)) (by simp [nbd])
  ·have h1:(D.map (·.1))[i]? =some x.1:=by rw[u8,Xn];rfl
   have h2:(D.map (·.1))[i+1]? =some y.1:=by rw[u8,hy];rfl
   obtain⟨l1,e1⟩:=D9.mp h1
   obtain⟨l2,e2⟩:=D9.mp h2
   have:=GY.mp T8 i (i+1) l1 l2 (by omega)
   rw[e1,e2] at this
   exact this
 ·have Na:i=D.length:=by simp at c;omega
  rw[Na,B7] at hdL OT
  rw[Na,EO (by rw[i5];exact l9 _)] at hRL
  refine⟨!D.isEmpty, .inr (.inr ⟨_,hdL,?_⟩),?_⟩
  ·unfold P9
   cases D<;>rfl
  have e1:((!(!D.isEmpty))=true)=False:=by cases hx2:D with
   |nil=>exact absurd hx2 Ig
   |cons y r=>simp
  rw[if_neg (by rw[e1];exact id)]
  exact q d L mL hdH hRL ⟨ra,C6 hdL hdH,fun w r' e=>let ⟨xs,h1,h2⟩:=OT w r' e;⟨xs,Bq _ _ h1,i3.same Bq _ _ h2⟩⟩
theorem HN:FnScope ["lengths","by_word","taken","word","make","places","place"] ["lengths","by_word"] (i7 ZX):=by ac_rfl
def Ye(ys:List (Int×Int)):LT:=ys.map fun y=>([.inl y.1, .inl y.2], .bl true)
theorem Kh{ys:List (Int×Int)}{y:Int×Int}(h:y∉ys):C7 (Ye ys) [.inl y.1, .inl y.2]=none:=by
 cases e:C7 (Ye ys) [.inl y.1, .inl y.2] with
 |none=>rfl
 |some v=>
  have:=NN e
  unfold Ye at this
  rw[K8] at this
  obtain⟨z,hz,e2⟩:=y9.mp this
  have e3:z=y:=by cases z;cases y;cases e2;rfl
  exact absurd (by rw[<-e3];exact hz) h
abbrev Xh(l d tk:Addr)(v3 v4 v5 v6:Option V):St:=[some (.ref l),some (.ref d),some (.ref tk),v3,v4,v5,v6]
def VS(H:Hp)(d tk:Addr)(o:Obj)(kv:List (D7×V))(ys:List (Int×Int))(L:Hp):Prop:=Mv [d] H L/\L d=some (.frz o (.dK kv))/\L tk=some (.dT (Ye ys))
def Qbh(H:Hp)(l d tk:Addr)(o:Obj)(kv:List (D7×V))(D:Wt Str)(i:Nat)(σ:St)(L:Hp):Prop:=∃v3 v4 v5 v6,σ=Xh l d tk v3 v4 v5 v6/\VS H d tk o kv (MI (D.take i)) L
def Qbg(H:Hp)(l d tk:Addr)(o:Obj)(kv:List (D7×V))(pre:List (Int×Int))(r:Rw)(i:Nat)(σ:St)(L:Hp):Prop:=∃v3 v4 v5 v6,σ=Xh l d tk v3 v4 v5 v6/\VS H d tk o kv (pre++Ox (r.take i)) L
def Jp(H:Hp)(l d tk:Addr)(o:Obj)(kv:List (D7×V))(pre:List (Int×Int))(m:Int)(ps:List Int)(i:Nat)(σ:St)(L:Hp):Prop:=∃v3 v5 v6,σ=Xh l d tk v3 (some (.int m)) v5 v6/\VS H d tk o kv (pre++(ps.take i).map fun p=>(m,p)) L
theorem QaN(F:Fun K "look_at_places" "look_at_places" ZX f fd)(T:Txt mg):FnOk P w K mg bs0 x8 1 f fd ["lengths","by_word"] Ky:=by
 refine F.ok HN (fun vs H Q E h=> ?_) (fun H9 A outer s H vs Q E hr h=> ?_)
 ·obtain⟨l,d,ms,fl,rfl,_⟩:=h
  rfl
 obtain⟨l,d,ms,fl,rfl,ok,nld,hl,⟨ra,hd,OT⟩,q⟩:=h
 refine⟨_,(c6 (i8 (i:=2) HN.nd rfl (Or.inl rfl) FX)
  (c6 (IY (x9 o8 rfl (Je (i6 1)) (j5 (i:=3) HN.nd rfl (Or.inl rfl))
   (e7 (x9 o8 rfl (r9 K (Z1 (T4 hr) (i6 1) (i6 3) (fun _ _=>rfl))) (LW K (n:=2) rfl (o9 (j5 (i:=4) HN.nd rfl (Or.inl rfl)) (o9 (j5 (i:=5) HN.nd rfl (Or.inl rfl)) P2)))
   (e7 (x9 o8 rfl (r9 K (i6 5)) (j5 (i:=6) HN.nd rfl (Or.inl rfl))
   (c6 (C4 (PW.pt (Bp (o4 KQ (i6 6) (Ax (T4 hr) (i6 0) (i6 4) j0 ⟨rfl,rfl,rfl,rfl⟩) (q5 _)) (Aw (Qam (Qat (T4 hr) (P8 (c4 (i6 4) (c4 (i6 6) c8))) (i6 2)))))) (e7 Q8) o7)
  (e7 (CQ (T4 hr) (i6 2) (P8 (c4 (i6 4) (c4 (i6 6) c8))) Ay rfl)))))))))
  (e7 (C4 (o4 KP (j6 QM rfl T.len A9 (c4 (i6 2) c8)) (j6 (QJ rfl) rfl T.sum (by decide+kernel) (c4 (XB K JR Vz PySem.F.type_dict_values Xb (i6 0)) c8)) (q5 _)) (e7 Q8) o7)))),?_⟩
 and_intros
 simpa only[↓NS,↓OR,↓II]
 intro tk YK
 have nd:=Qao ok.2.1 fl
 have E2:=WF ok.2.1 fl
 have htot:=ok.2.2.2.1 fl
 have ndk:((Dg ms fl).map (·.1)).Nodup:=by
  have:(Dg ms fl).map (·.1)=keysOf ms fl:=by unfold Dg;rw[K8];exact GO _
  rw[this]
  exact Fv ms fl
 have hpr:∀y∈MI (Dg ms fl),∃m∈ms,m.1=y.1/\y.2<U7 ms m.1 fl:=fun y hy=>by
  obtain⟨x,hx,hy⟩:=GQ.mp hy
  obtain⟨w,_,rfl⟩:=y9.mp hx
  obtain⟨m,hm,e1,_,e2,_⟩:=Ti ok.2.1 hy
  exact⟨m,hm,e1,by rw[OG (V6 ok.2.1).2 hm];exact e2⟩
 generalize Dg ms fl=D at hd OT nd E2 ndk hpr
 have ndt:tk≠d:=fun z=>by rw[z,hd] at YK;cases YK
 have hd1:=k7 (o:= .dT []) hd YK
 refine⟨_,hd1,fun o=>EJ (Qbh H l d tk o (P9 ra D) D) ⟨_,_,_,_,rfl,(Mv.of (d0 YK _)).upd (by simp),c5,by rw[i4 ndt];exact c5⟩ ?_ ?_ ?_⟩
 ·rintro i σ L ⟨v3,v4,v5,v6,rfl,mL,hdL,htL⟩
  exact hdL
 ·rintro i k v σ L hk ⟨v3,v4,v5,v6,rfl,iL⟩
  unfold P9 at hk
  rw[u8] at hk
  obtain⟨x,hx,e⟩:=D3.mp hk
  cases e
  have hg:=EH ndk hx
  have hv:C7 (P9 ra D) (.inr x.1)=some (.ref (ra x.1)):=by rw[E4,hg];rfl
  obtain⟨xs,Hv,hDx⟩:=OT x.1 x.2 hg
  have at_:∀{L:Hp} {b:Addr} {u:HO},Mv [d] H L->H b=some u->u≠ .dK (P9 ra D)->L b=some u:=fun m e n=>m.at_ e (AO e hd n)
  simpa only[↓DN]
  refine⟨_, .inl ⟨_, .inr x.1, .inr ⟨o,iL.2.1⟩,rfl,hv.symm⟩,ra x.1,rfl,⟨xs,o6.of (at_ iL.1 Hv (by intro z;cases z))⟩,?_⟩
  refine w6 xs (Qbg H l d tk o (P9 ra D) (MI (D.take i)) x.2) ⟨_,_,_,_,rfl,by rw[M6];show VS H d tk o (P9 ra D) (MI (D.take i)++[]) L;rw[List.append_nil];exact iL⟩ ?_ ?_ ?_
  ·rintro j σ L hj ⟨v3,v4,v5,v6,rfl,iL⟩
   exact o6.of (at_ iL.1 Hv (by intro z;cases z))
  ·rintro j y σ L hy ⟨v3,v4,v5,v6,rfl,iL⟩
   obtain⟨dv,h1,h2⟩:=hDx.get hy
   rw[u8] at h1
   obtain⟨p,hp,rfl⟩:=D3.mp h1
   obtain⟨a,b,rfl,ha,hb⟩:=EL h2
   simpa only[l8]
   refine⟨_,AG.of (at_ iL.1 ha (by intro z;cases z)),rfl,?_⟩
   simpa only[l8]
   refine⟨⟨_,o6.of (at_ iL.1 hb (by intro z;cases z))⟩,w6 (p.2.map V.int) (Jp H l d tk o (P9 ra D) (MI (D.take i)++Ox (x.2.take j)) p.1 p.2) ⟨_,_,_,rfl,by rw[M6];show VS H d tk o (P9 ra D) (_++[]) L;rw[List.append_nil];exact iL⟩ ?_ ?_ ?_⟩
   ·rintro k σ L hk ⟨v3,v5,v6,rfl,iL⟩
    exact o6.of (at_ iL.1 hb (by intro z;cases z))
   ·rintro k y σ L hy ⟨v3,v5,v6,rfl,mL,hdL,htL⟩
    obtain⟨pl,Hf,rfl⟩:=AR hy
    have Hx:(MI (D.take i)++Ox (x.2.take j)++(p.2.take (k+1)).map fun z=>(p.1,z))<+:MI D:=by
     rw[o5]
     exact Lv hx (Lv hp ((List.take_prefix _ _).map _))
    have e1:(p.2.take (k+1)).map (fun z=>(p.1,z))=(p.2.take k).map (fun z=>(p.1,z))++[(p.1,pl)]:=by rw[q9,Hf,n4];rfl
    unfold Jp
    rw[e1,<-o5] at Hx⊢
    generalize MI (D.take i)++Ox (x.2.take j)++(p.2.take k).map (fun z=>(p.1,z))=pre at Hx htL⊢
    have hnp:(p.1,pl)∉pre:=fun z=>(Dw.mp (nd.sublist Hx.sublist)).2.2 _ z _ (by simp) rfl
    obtain⟨m,hm,em,T8⟩:=hpr _ (Hx.subset (by simp:(p.1,pl)∈pre++[(p.1,pl)]))
    have Hf:pre.length<3001:=by
     have:=Hx.length_le
     rw[l0] at this
     omega
    simp only at em T8
    simpa only[↓Dk,↓QbI,↓EY,↓X1]
    have hlL:=mL.at_ hl nld
    have htl:(Ye pre).length=pre.length:=i5 _
    refine⟨.inl ⟨_, .inl hlL⟩,_,BO.k (k:= .inl p.1) hlL,(U7 ms m.1 fl:Int),by rw[<-em,Lg hm];rfl,?_⟩
    rw[if_neg (by simp;omega)]
    refine⟨by decide,fun t1 ht1=>⟨_,BO.t (k:=[.inl p.1, .inl pl]) (k7 htL ht1) c5,?_⟩⟩
    rw[Kh (y:=(p.1,pl)) hnp,if_neg (by simp)]
    have s1:=d0 ht1 (.tup [.int p.1, .int pl])
    refine⟨by decide,fun t2 ht2=>⟨_,Fk.t (k:=[.inl p.1, .inl pl]) (k7 (k7 htL ht1) ht2) c5 (Ag (by omega)),?_⟩⟩
    refine⟨?_,?_,?_⟩
    ·exact((mL.trans (Mv.of (s1.trans (d0 ht2 _)))).new YK)
    ·rw[i4 ndt.symm]
     exact k7 (k7 hdL ht1) ht2
    ·rw[c5,X4 _ (Kh (y:=(p.1,pl)) hnp)]
     unfold Ye
     rw[n4]
     rfl
   ·rintro σ L ⟨v3,v5,v6,rfl,iL⟩
    rw[i5,B7] at iL
    refine⟨_,_,_,_,rfl,?_⟩
    have:Ox (x.2.take (j+1))=Ox (x.2.take j)++p.2.map fun z=>(p.1,z):=by
     unfold Ox
     rw[q9,hp,Nl]
     simp
    rw[this,<-o5]
    exact iL
  ·rintro σ L ⟨v3,v4,v5,v6,rfl,iL⟩
   have De:xs.length=x.2.length:=by have:=hDx.length;rwa [i5] at this
   rw[De,B7] at iL
   refine⟨_,_,_,_,rfl,?_⟩
   have:MI (D.take (i+1))=MI (D.take i)++Ox x.2:=by
    unfold MI
    rw[q9,hx,Nl]
    simp
   rw[this]
   exact iL
 ·rintro σ L ⟨v3,v4,v5,v6,rfl,mL,hdL,htL⟩
  have ek:(P9 ra D).length=D.length:=S8
  rw[ek,B7] at htL
  refine⟨_, .inr ⟨d,o,_,hd1,hdL,rfl⟩,?_⟩
  have sF:j9 H (upd L d (.dK (P9 ra D))):=fun b u e=>by
   by_cases c:b=d
   ·rw[c,hd] at e
    rw[c,c5,e]
   ·rw[i4 c]
    exact mL.at_ e c
  simpa only[Xh,↓Yt,↓X1]
  have hlF:=sF _ _ hl
  refine⟨_,(by rw[i4 ndt];exact htL), .inr (.inr (.inl ⟨rfl, .inl ⟨_,hlF⟩⟩)),_,hlF,fun v hv=>⟨_,c5,_,k7 hlF hv,ms.map fun m=>(U7 ms m.1 fl:Int),?_,?_⟩⟩
  ·unfold Q9
   rw[K8,K8]
   rfl
  ·rw[Ue ok.2.1,show (Ye (MI D)).length=IF ms fl by rw[Ye,i5,E2],if_neg (by simp)]
   exact q _ (sF.trans (d0 hv _))
end
def CA(ms:List Mk):Fl:=(j7 ms).map fun f=>(f,Dg ms f)
theorem Ei{α:Type}{g:Str->α}{x:Str}:∀{l:List Str},get (l.map fun k=>(k,g k)) x=if x∈l then some (g x) else none
 |[]=>rfl
 |k::l=>by
  rw[List.map_cons,KT.get]
  by_cases e:k=x
  ·rw[if_pos e,if_pos (by rw[e];exact C0),e]
  ·rw[if_neg e,Ei]
   by_cases c:x∈l
   ·rw[if_pos c,if_pos (D5 _ c)]
   ·rw[if_neg c,if_neg fun z=>c ((E8.mp z).resolve_left fun y=>e y.symm)]
theorem Xz(ms:List Mk)(f w:Str):(get (Dg ms f) w).getD []=A1 ms f w:=by
 unfold Dg
 rw[Ei]
 split
 ·rfl
 ·rename_i h
  exact(CF fun z=>h (Cv.mpr fun y=>z y.symm))
theorem UO{ms:List Mk}{f:Str}(h:f∉j7 ms):Dg ms f=[]:=by
 have hw:U8 ms f=[]:=Rv fun z=>h ((C3 _).mem_iff.mpr z)
 unfold Dg keysOf
 rw[hw]
 have:=(C3 (([]:Wt Str).map (·.1))).length_eq
 rw[Dy this]
 rfl
theorem OZ(ms:List Mk)(f:Str):(get (CA ms) f).getD []=Dg ms f:=by
 unfold CA
 rw[Ei]
 split
 ·rfl
 ·rename_i h
  rw[UO h]
  rfl
theorem Qbm(ms:List Mk):FE (CA ms) (J5 [] ms):=by
 refine⟨?_,fun f=> ?_,fun f w=> ?_⟩
 ·have:(CA ms).map (·.1)=j7 ms:=by unfold CA;rw[K8];exact GO _
  rw[this]
  exact C3 _
 ·rw[OZ]
  have:(Dg ms f).map (·.1)=keysOf ms f:=by unfold Dg;rw[K8];exact GO _
  rw[this]
  exact C3 _
 ·rw[OZ,Xz]
  rfl
def Kw(CP C:Addr):Sp:=fun vs H Q _=>∃(r a:Addr) (ms:List Mk),vs=[.ref r]/\Ok ms/\Q5 C r a H (MJ ms)/\∀x M H',AL CP M x ms->j9 M H'->(∀b,b≠r->H b≠none->M b=none)->Mv [r] H H'->Q5 C r a H' []->Q (.ref x) H'
def Zz{CP C:Addr}{v0:Addr}{H:Hp}{Q:VK}{E:XK}:=show Kw CP C [.ref v0] H Q E=_ by
 simpa only[Kw]
 rfl
def Kr(CP:Addr):Sp:=fun vs H Q _=>∃(a:Addr) (ms:List Mk),vs=[.ref a]/\Ok ms/\H a=some (.lst ((MJ ms).map V.int))/\∀x M H',AL CP M x ms->j9 M H'->(∀b,H b≠none->M b=none)->j9 H H'->Q (.ref x) H'
def Zv{CP:Addr}{v0:Addr}{H:Hp}{Q:VK}{E:XK}:=show Kr CP [.ref v0] H Q E=_ by
 simpa only[Kr]
 rfl
section
variable {P:Program} {w:World} {K:n9} {mg:Str->Option Value} {bs0:Heap} {f:Addr} {fd:FuncData} {C:Addr}
theorem EX:FnScope ["reader","makes","many","by_field","lengths","field","field_lengths"] ["reader"] (i7 ZV):=by ac_rfl
def QbD(C r a om B N:Addr)(ms:List Mk)(H:Hp)(m:Nat)(σ:St)(L:Hp):Prop:=∃(i:Nat) (ah:Str) (da:Str->Addr) (v6:Option V),m=(j7 ms).length-i/\i<=(j7 ms).length/\σ=[some (.ref r),some (.ref om),some (.int (j7 ms).length),some (.ref B),some (.ref N),some (.str ah),v6]/\Mv [r] H L/\Q5 C r a L (((j7 ms).map (K7 ms)).drop i).flatten/\L om=some (.lst ((ms.map (·.1)).map V.int))/\L B=some (.dK (P9 da ((CA ms).take i)))/\L N=some (.dT (BS ms ((j7 ms).take i) []))/\
 (∀f D,get ((CA ms).take i) f=some D->XN (DG [r,B,N] (nw (DG [r] H) L)) (da f) D)/\(∀x,(j7 ms)[i]? =some x->ah.cps.toList<x.cps.toList)
theorem nwS{S:List Addr}{G L L':Hp}(h:Mv S L L'):j9 (DG S (nw G L)) (DG S (nw G L')):=fun b u e=>by
 obtain⟨e1,e2⟩:=Jh e
 obtain⟨e3,e4⟩:=EZ e1
 exact AA (C6 (h b u e2 e3) e4) e2
theorem QaF{CP g1 g2 g3 g4 g5 g6 g7 g8:Addr}{d1 d2 d3 d4 d5 d6 d7 d8:FuncData}(F:Fun K "next_piece" "next_piece" ZV f fd)(T:Txt mg)(clR:Cls K C)(mRR:Meth K C "next_rising" g1)(GRR:FnOk P w K mg bs0 x8 4 g1 d1 ["self"] (FL C))(bRR:Binds K d1 ["self"] [])
  (mRN:Meth K C "next_number" g2)(GRN:FnOk P w K mg bs0 x8 2 g2 d2 ["self"] (Y2 C))(bRN:Binds K d2 ["self"] [])
  (GNF:FnOk P w K mg bs0 x8 4 g3 d3 ["reader","ahead"] (Sh C))(bNF:Binds K d3 ["reader","ahead"] [])(kNF:PySem.W.keepIn K (.ref g3)=true)(mNF:mg "next_field"=some (.ref g3))
  (GNL:FnOk P w K mg bs0 x8 3 g4 d4 ["reader","makes"] (Sg C))(bNL:Binds K d4 ["reader","makes"] [])(kNL:PySem.W.keepIn K (.ref g4)=true)(mNL:mg "next_lengths"=some (.ref g4))
  (GNWs:FnOk P w K mg bs0 x8 6 g5 d5 ["reader"] (Kv C))(bNWs:Binds K d5 ["reader"] [])(kNWs:PySem.W.keepIn K (.ref g5)=true)(mNWs:mg "next_words"=some (.ref g5))
  (GLap:FnOk P w K mg bs0 x8 1 g6 d6 ["lengths","by_word"] Ky)(bLap:Binds K d6 ["lengths","by_word"] [])(kLap:PySem.W.keepIn K (.ref g6)=true)(mLap:mg "look_at_places"=some (.ref g6))
  (GAdl:FnOk P w K mg bs0 x8 1 g7 d7 ["lengths","field","field_lengths"] KF)(bAdl:Binds K d7 ["lengths","field","field_lengths"] [])(kAdl:PySem.W.keepIn K (.ref g7)=true)(mAdl:mg "add_lengths"=some (.ref g7))
  (GPo:FnOk P w K mg bs0 x8 8 g8 d8 ["makes","by_field","lengths"] (Ks CP))(bPo:Binds K d8 ["makes","by_field","lengths"] [])(kPo:PySem.W.keepIn K (.ref g8)=true)(mPo:mg "piece_of_parts"=some (.ref g8)):FnOk P w K mg bs0 x8 9 f fd ["reader"] (Kw CP C):=by
 refine F.ok EX (fun vs H Q E h=> ?_) (fun H9 A outer s H vs Q E hr h=> ?_)
 ·obtain⟨r,a,ms,rfl,_⟩:=h
  rfl
 obtain⟨r,a,ms,rfl,ok,hR,q⟩:=h
 have hr1:Room 1 _:=hr.mono (by decide)
 have hr2:Room 2 _:=hr.mono (by decide)
 have hr3:Room 3 _:=hr.mono (by decide)
 have hr4:Room 4 _:=hr.mono (by decide)
 have hr6:Room 6 _:=hr.mono (by decide)
 refine⟨_,(c6 (i8 (i:=1) EX.nd rfl (Or.inl rfl) (A6 (i6 0) clR mRR GRR hr4 bRR .nil j3))
  (c6 (i8 (i:=2) EX.nd rfl (Or.inl rfl) (A6 (i6 0) clR mRN GRN hr2 bRN .nil j3))
  (c6 (i8 (i:=3) EX.nd rfl (Or.inl rfl) R7)
  (c6 (i8 (i:=4) EX.nd rfl (Or.inl rfl) FX)
  (c6 (i8 (i:=5) EX.nd rfl (Or.inl rfl) A5)
  (c6 (V5 o8 (o4 Dc (j6 CZ rfl T.len A9 (c4 (i6 3) c8)) (i6 2) (q5 _))
   (c6 (i8 (i:=5) EX.nd rfl (Or.inl rfl) (i9 GNF hr4 rfl mNF kNF bNF .nil j3 (c4 (i6 0) (c4 (i6 5) c8))))
  (c6 (i8 (i:=6) EX.nd rfl (Or.inl rfl) (i9 GNL hr3 rfl mNL kNL bNL .nil j3 (c4 (i6 0) (c4 (i6 1) c8))))
  (c6 (CQ (T4 hr) (i6 3) (i6 5) (i9 GNWs hr6 rfl mNWs kNWs bNWs .nil j3 (c4 (i6 0) c8)) rfl)
  (c6 (q0 (i9 GLap hr1 rfl mLap kLap bLap .nil j3 (c4 (i6 6) (c4 (Z1 (T4 hr) (i6 3) (i6 5) (fun _ _=>rfl)) c8))))
  (e7 (q0 (i9 GAdl hr1 rfl mAdl kAdl bAdl .nil j3 (c4 (i6 4) (c4 (i6 5) (c4 (i6 6) c8)))))))))))
  (e7 (l6 (i9 GPo hr rfl mPo kPo bPo .nil j3 (c4 (i6 1) (c4 (i6 3) (c4 (i6 4) c8)))))))))))),?_⟩
 and_intros
 simpa only[↓C8,↓RY,FL,↓Cg,Y2,↓Y5,↓II]
 obtain⟨dx,k,hr'⟩:=hR.ins
 unfold MJ at hR
 rw[o5] at hR
 refine⟨dx,_,hr',rfl,a,_,_,hR,ED ok,fun om H1 m1 Uw hR1 homv=> ?_⟩
 obtain⟨dx1,k1,hr1'⟩:=hR1.ins
 refine⟨dx1,_,hr1',rfl,a,_,_,hR1,fun H2 m2 hR2 B hB N hN=> ?_⟩
 obtain⟨dx2,k2,hr2'⟩:=hR2.ins
 have nor:om≠r:=fun z=>by rw[z,hr'] at Uw;cases Uw
 have hom2:=m2.at_ homv nor
 have m12:=m1.trans m2
 have hBH:H B=none:=m12.free hr2' hB
 obtain⟨nBr,nBa⟩:=hR2.nr hB
 have nBo:B≠om:=fun z=>by rw[z,hom2] at hB;cases hB
 have hR3:=hR2.put (o:= .dK []) nBr nBa
 obtain⟨nNr,nNa⟩:=hR3.nr hN
 have nNB:N≠B:=fun z=>by rw[z,c5] at hN;cases hN
 have hN2:H2 N=none:=by rwa [i4 nNB] at hN
 have hNH:H N=none:=m12.free hr2' hN2
 have nNo:N≠om:=fun z=>by rw[z,hom2] at hN2;cases hN2
 have hf4:=Cy ok
 have h200:=ok.1.1
 have efl:(CA ms).length=(j7 ms).length:=i5 _
 have ndf:((CA ms).map (·.1)).Nodup:=by
  have:(CA ms).map (·.1)=j7 ms:=by unfold CA;rw[K8];exact GO _
  rw[this]
  exact Yz (Pa ms)
 refine⟨QbD C r a om B N ms H,⟨(j7 ms).length,0,"",fun _=>0,_,rfl,x5 _,rfl,(m12.new hBH).new hNH,hR3.put nNr nNa,by rw[i4 nNo.symm,i4 nBo.symm];exact hom2,by rw[i4 nNB.symm,c5];rfl,by rw[c5];rfl,fun f D e=>(by cases e),fun x e=> ?_⟩,?_⟩
 ·have:=Cz ok.2.1 (E7 e)
  unfold Az at this
  rw[Q0] at this
  have:=(A2 this.1).1
  rw[<-P7] at this
  cases hc:x.cps.toList with
  |nil=>rw[hc] at this;cases this
  |cons u r=>exact Nk _ _
 rintro m σ L ⟨i,ah,da,v6,rfl,hi,rfl,mL,hRL,hoL,hBL,hNL,hDA,hah⟩
 simpa only[↓C8,↓QbP,Sh,↓QbO,Sg,↓Zy,Kv,↓ZB,Ky,↓ZE,KF,↓Zw,Ks,↓EY,↓DN]
 refine⟨_,hBL,?_⟩
 have Ma:(P9 da ((CA ms).take i)).length=i:=by rw[S8,I9,efl];omega
 rw[Ma]
 refine O3 (fun c=> ?_) (fun c=> ?_)
 ·have T8:i<(j7 ms).length:=by have:=A2 c;omega
  have hx:(j7 ms)[i]? =some (j7 ms)[i]:=u9 T8
  have Wa:=BK T8
  generalize (j7 ms)[i]=fl at hx Wa
  have hx2:(CA ms)[i]? =some (fl,Dg ms fl):=by unfold CA;rw[u8,hx];rfl
  have hb:((j7 ms).map (K7 ms))[i]? =some (K7 ms fl):=by rw[u8,hx];rfl
  have Qt:=Cz ok.2.1 Wa
  have hn12:fl.length<=12:=by
   unfold Az at Qt
   rw[Q0] at Qt
   exact(A2 Qt.1).2
  rw[Bu hb,show K7 ms fl=A8 fl++((E3 ms fl).flatten++(nb (keysOf ms fl).length++((keysOf ms fl).map (O6 ms fl)).flatten)) by unfold K7;simp only[o5]] at hRL
  simp only[o5] at hRL
  refine⟨fun σ' H'=>∃m',m'<(j7 ms).length-i/\QbD C r a om B N ms H m' σ' H',fun _ _ h=>h,a,fl,_,hRL,by omega,Qt,hah fl hx,fun H3 m3 hR3=> ?_⟩
  refine⟨a,ms,ok,m3.at_ hoL nor,fl,_,hR3,fun l H4 m4 hl hR4 hlv=> ?_⟩
  obtain⟨dx4,k4,hr4'⟩:=hR4.ins
  rw[<-QE] at hR4
  have hDl:(Dg ms fl).length=(keysOf ms fl).length:=i5 _
  rw[<-hDl] at hR4
  refine⟨a,Dg ms fl,_,hR4,Qbo ok Wa,fun d H5 m5 hd hR5 Qw=> ?_⟩
  obtain⟨dx3,k3,hr3'⟩:=hR3.ins
  have m35:=(m3.trans m4).trans m5
  have hB4:=(m3.trans m4).at_ hBL nBr
  have hN4:=(m3.trans m4).at_ hNL nNr
  have hB5:=m5.at_ hB4 nBr
  have hn:get ((CA ms).take i) fl=none:=by
   cases e:get ((CA ms).take i) fl with
   |none=>rfl
   |some v=>
    have h1:=T5.mp (show (get ((CA ms).take i) fl).isSome=true by rw[e];rfl)
    have nd2:(((CA ms).take (i+1)).map (·.1)).Nodup:=ndf.sublist ((Ir _ _).map _)
    rw[q9,hx2,n4] at nd2
    exact absurd rfl ((Dw.mp nd2).2.2 fl h1 fl (by simp))
  have QZ:C7 (P9 da ((CA ms).take i)) (.inr fl)=none:=by rw[E4,hn];rfl
  have e0:V.str fl=kV (.inr fl):=rfl
  have kvE:P9 da ((CA ms).take i)++[(.inr fl, .ref d)]=P9 (V8 da fl d) ((CA ms).take (i+1)):=by
   rw[q9,hx2]
   exact(Jo hn).symm
  have hv2:C7 (P9 (V8 da fl d) ((CA ms).take (i+1))) (.inr fl)=some (.ref d):=by
   have hg:get ((CA ms).take (i+1)) fl=some (Dg ms fl):=EH (x:=(fl,Dg ms fl)) (ndf.sublist ((Ir _ _).map _)) (by rw[CK,if_pos (GK _)];exact hx2)
   rw[E4,hg]
   show some (V.ref (V8 da fl d fl))=_
   rw[G9]
  refine⟨_,by rw[e0];exact Fk.k hB5 (by rw[Ma];exact Ag (by omega)),?_⟩
  rw[X4 _ QZ,kvE]
  have nlB:l≠B:=fun z=>by rw[z,m3.at_ hBL nBr] at hl;cases hl
  have nlr:l≠r:=fun z=>by rw[z,hr3'] at hl;cases hl
  have nlN:l≠N:=fun z=>by rw[z,m3.at_ hNL nNr] at hl;cases hl
  have nld:l≠d:=fun z=>by rw[<-z,hlv] at hd;cases hd
  have hl5:=m5.at_ hlv nlr
  have hR6:=hR5.put (o:= .dK (P9 (V8 da fl d) ((CA ms).take (i+1)))) nBr nBa
  have s45:j9 (nw H4 H5) (upd H5 B (.dK (P9 (V8 da fl d) ((CA ms).take (i+1))))):=fun b u e=>by
   obtain⟨e1,e2⟩:=EZ e
   rw[i4 fun z=>by rw[z,hB4] at e2;cases e2]
   exact e1
  have hB6:(upd H5 B (.dK (P9 (V8 da fl d) ((CA ms).take (i+1))))) B=_:=c5
  have hl6:(upd H5 B (.dK (P9 (V8 da fl d) ((CA ms).take (i+1))))) l=_:=(i4 nlB).trans hl5
  have hN6:(upd H5 B (.dK (P9 (V8 da fl d) ((CA ms).take (i+1))))) N=_:=(i4 nNB).trans (m5.at_ hN4 nNr)
  have ho6:(upd H5 B (.dK (P9 (V8 da fl d) ((CA ms).take (i+1))))) om=_:=(i4 nBo.symm).trans (m35.at_ hoL nor)
  have m6:Mv [r,B,N] L (upd H5 B (.dK (P9 (V8 da fl d) ((CA ms).take (i+1))))):=(m35.sub (by simp)).upd (by simp)
  have mH6:Mv [r] H (upd H5 B (.dK (P9 (V8 da fl d) ((CA ms).take (i+1))))):=(mL.trans m35).new hBH
  generalize upd H5 B (.dK (P9 (V8 da fl d) ((CA ms).take (i+1))))=L6 at hR6 s45 hB6 hl6 hN6 ho6 m6 mH6⊢
  refine⟨_,by rw[e0];exact .inl ⟨_, .inr fl, .inl hB6,rfl,hv2.symm⟩,d,rfl,ms,ok,nld,fl,hl6,Qw.same s45,fun L7 s7=> ?_⟩
  have hTl:(BS ms ((j7 ms).take i) []).length<=4*200:=by
   refine Ad Ia ?_
   show 0+((j7 ms).take i).length*ms.length<=_
   rw[I9,Dz]
   exact Nat.mul_le_mul (by omega) h200
  refine⟨ms,ok,_,s7 _ _ hN6,by omega,s7 _ _ hl6,fun L8 m8 hN8=> ?_⟩
  have m68:Mv [r,B,N] L6 L8:=(Mv.of s7).trans (m8.sub (by simp))
  have at8:∀{b u},L6 b=some u->b≠N->L8 b=some u:=fun e n=>m8.at_ (s7 _ _ e) n
  obtain⟨dx6,ns6,k6,hr6',ha6,ht6⟩:=hR6
  have naN:a≠N:=nNa.symm
  refine⟨(j7 ms).length-(i+1),by omega,i+1,fl,V8 da fl d,_,rfl,T8,rfl,?_,⟨dx6,ns6,k6,at8 hr6' nNr.symm,at8 ha6 naN,ht6⟩,at8 ho6 nNo.symm,at8 hB6 nNB.symm,?_,fun g D e=> ?_,fun y hy=> ?_⟩
  ·exact fun b u nb e=>at8 (mH6 b u nb e) (k9 e hNH)
  ·rw[hN8,q9,hx]
   unfold BS
   rw[Dv]
   rfl
  ·have sm:j9 (DG [r,B,N] (nw (DG [r] H) L)) (DG [r,B,N] (nw (DG [r] H) L8)):=nwS (m6.trans m68)
   by_cases c:g=fl
   ·subst c
    rw[q9,hx2] at e
    have e':get ((CA ms).take i++[(g,Dg ms g)]) g=some D:=e
    rw[<-P4 hn (fun _=>Dg ms g),J7] at e'
    cases e'
    rw[G9]
    refine Qw.same fun b u eb=> ?_
    obtain⟨e1,e2⟩:=EZ eb
    have n1:b≠r:=fun z=>by rw[z,hr4'] at e2;cases e2
    have n2:b≠B:=fun z=>by rw[z,hB4] at e2;cases e2
    have n3:b≠N:=fun z=>by rw[z,hN4] at e2;cases e2
    have hbH:H b=none:=(mL.trans (m3.trans m4)).free hr4' e2
    exact AA (C6 (at8 (s45 _ _ eb) n3) (by unfold DG;split<;>first|rfl|exact hbH)) (by simp [n1,n2,n3])
   ·rw[D0 c]
    refine(hDA g D ?_).same sm
    rw[q9,hx2] at e
    have e':get ((CA ms).take i++[(fl,Dg ms fl)]) g=some D:=e
    rw[<-P4 hn (fun _=>Dg ms fl),N4 _ _ c] at e'
    exact e'
  ·obtain⟨l1,e1⟩:=D9.mp hx
   obtain⟨l2,e2⟩:=D9.mp hy
   have:=GY.mp (Pa ms) i (i+1) l1 l2 (by omega)
   rw[e1,e2] at this
   exact this
 ·have Na:i=(j7 ms).length:=by simp at c;omega
  rw[Na,<-efl,B7] at hBL hDA
  rw[Na,B7] at hNL
  rw[Na,EO (by rw[i5];exact l9 _)] at hRL
  have gO:∀{b},H b=none->DG [r] H b=none:=fun h=>by unfold DG;split<;>first|rfl|exact h
  refine⟨DG [r] H,CA ms,BS ms (j7 ms) [],ms,by rw[K8] at hoL;exact hoL,gO Uw,fun b u e=> ?_,⟨da,C6 hBL (gO hBH),fun g D e=>(hDA g D e).same Bq⟩,ok,Qbm ms,hNL,gO hNH,fun m f=>Uf ok.2.1 m f,fun x M H' Kc sM hM sH=> ?_⟩
  ·obtain⟨e1,e2⟩:=Jh e
   exact mL b u e2 e1
  ·exact q x M H' Kc sM (fun b nb hb=>hM b (by unfold DG;rw[if_neg (by simpa using nb)];exact hb)) (mL.trans (Mv.of sH)) (hRL.same sH)
theorem SD:FnScope ["row","reader","piece"] ["row"] (i7 ZQ):=by ac_rfl
theorem Qaz{CP g1 g2 g3:Addr}{d1 d2 d3:FuncData}(F:Fun K "read_piece" "read_piece" ZQ f fd)(T:Txt mg)(clR:Cls K C)(mkR:L2.Mk K C g1)(mRc:mg "Reader"=some (.ref C))(GRI:FnOk P w K mg bs0 x8 1 g1 d1 ["self","row"] (RZ C))(bRI:Binds K d1 ["self","row"] [])
  (GNPc:FnOk P w K mg bs0 x8 9 g2 d2 ["reader"] (Kw CP C))(bNPc:Binds K d2 ["reader"] [])(kNPc:PySem.W.keepIn K (.ref g2)=true)(mNPc:mg "next_piece"=some (.ref g2))
  (mRE:Meth K C "look_at_end" g3)(GRE:FnOk P w K mg bs0 x8 1 g3 d3 ["self"] (Sm C))(bRE:Binds K d3 ["self"] []):FnOk P w K mg bs0 x8 10 f fd ["row"] (Kr CP):=by
 refine F.ok SD (fun vs H Q E h=> ?_) (fun H9 A outer s H vs Q E hr h=> ?_)
 ·obtain⟨a,ms,rfl,_⟩:=h
  rfl
 obtain⟨a,ms,rfl,ok,ha,q⟩:=h
 have hr1:Room 1 _:=hr.mono (by decide)
 have hr2:Room 2 _:=hr.mono (by decide)
 refine⟨_,(c6 (i8 (i:=1) SD.nd rfl (Or.inl rfl) (Jf mkR GRI hr2 rfl mRc bRI .nil j3 (c4 (i6 0) c8)))
  (c6 (i8 (i:=2) SD.nd rfl (Or.inl rfl) (i9 GNPc hr rfl mNPc kNPc bNPc .nil j3 (c4 (i6 1) c8)))
  (c6 (q0 (A6 (i6 1) clR mRE GRE hr1 bRE .nil j3))
  (e7 (l6 (i6 2)))))),?_⟩
 and_intros
 simpa only[↓Mm,↓C8,↓QbL,RZ,↓Zz,Kw,↓QbQ,Sm]
 intro x dx hx hdx Ig
 refine⟨dx,c5,a,ms,ok,?_⟩
 rw[AN]
 have s1:j9 H (upd (upd H dx (.own x)) x (.ins C dx (rd a 0))):=((j9.refl _).newer hdx _).newer hx _
 refine⟨⟨dx,MJ ms,0,c5,s1 _ _ ha,rfl⟩,fun y M H' Kc sM hM mv hRE=> ?_⟩
 obtain⟨dx2,k2,hr2'⟩:=hRE.ins
 have sH:j9 H H':=fun b u e=>mv.at_ (s1 _ _ e) (k9 e hx)
 refine⟨dx2,_,hr2',rfl,a,hRE,q y M H' Kc sM (fun b hb=>hM b (fun z=>hb (by rw[z];exact hx)) fun z=> ?_) sH⟩
 cases e:H b with
 |none=>exact hb e
 |some u=>rw[s1 _ _ e] at z;cases z
end
abbrev FC:={x:Int // 0<=x/\x<2147483587}
def dI(x:FC):V:= .int x.1
def d31(x:Int):FC:=⟨x % 2147483587,V3 x (by decide),V2 x (by decide)⟩
def DS(K:n9):Sp:=fun vs H Q _=>∃(a:Addr) (ns:List Int) (t m:Int),vs=[.ref a, .int t, .int m]/\o6 K H a (ns.map V.int)/\ns.length<=63/\0<=t/\t<=10/\0<=m/\m<=900/\
 ∀(r:Addr) (ds:List FC) (H':Hp),j9 H H'->H r=none->H' r=some (.lst (ds.map dI))->Q (.ref r) H'
def Sq{K:n9}{v0:Addr}{v1:Int}{v2:Int}{H:Hp}{Q:VK}{E:XK}:=show DS K [.ref v0, .int v1, .int v2] H Q E=_ by
 simpa only[DS]
 rfl
def W0:Sp:=fun vs H Q _=>∃(d:Addr) (ns:List FC),vs=[.ref d]/\H d=some (.lst (ns.map dI))/\
 ∀(z:FC) (ns':List FC) (H':Hp),Mv [d] H H'->H' d=some (.lst (ns'.map dI))->Q (.int z.1) H'
def By{v0:Addr}{H:Hp}{Q:VK}{E:XK}:=show W0 [.ref v0] H Q E=_ by
 simpa only[W0]
 rfl
theorem UU(ns:List Int)(lo hi:Option Int):JD (ns.map V.int) lo hi=(Z8 ns lo hi).map V.int:=by
 unfold JD Z8
 rw[i5,JJ,Np]
theorem LC{a b j:Int}(h:0<j)(h':j<2^63):VU (a % j) b:=by
 have h1:=V3 a (show j≠0 by omega)
 have h2:=V2 a h
 exact .inl ⟨by omega,by omega⟩
theorem ZI:FnScope ["_law_draws_here"] ["_law_draws_here"] (i7 SO):=by ac_rfl
theorem WO(F:Fun K "_law_pop" "_law_pop" SO f fd):FnOk P w K mg bs0 x8 1 f fd ["_law_draws_here"] W0:=by
 refine F.ok ZI (fun vs H Q E h=> ?_) (fun H9 A outer s H vs Q E hr h=> ?_)
 ·obtain⟨d,ns,rfl,_⟩:=h
  rfl
 obtain⟨d,ns,rfl,hd,q⟩:=h
 refine⟨_,(c6 (C4 (o4 (Tx K hr) (i6 0) (B4 c8) (q5 _)) (e7 (l6 j0)) o7)
  (e7 (l6 (XB K B6 PySem.F.slot_list_pop PySem.F.type_list_pop QaZ (i6 0))))),?_⟩
 and_intros
 simpa only[l8]
 refine⟨by decide,fun p hp=>⟨_,o6.of (k7 hd hp),o6.of c5,?_⟩⟩
 have hs:=d0 hp (.lst [])
 refine O3 (fun c=> ?_) (fun c=> ?_)
 ·exact q ⟨0,by decide⟩ ns _ (Mv.of hs) (hs _ _ hd)
 ·have Ig:ns≠[]:=by intro z;subst z;exact c rfl
  have hl:0<ns.length:=JL.mpr Ig
  refine⟨.inl ⟨rfl,_,o6.of (hs _ _ hd)⟩,_,hs _ _ hd,dI ns[ns.length-1],?_,?_⟩
  ·rw[u8,i5,u9 (by omega)]
   rfl
  ·refine q _ ns.dropLast _ ((Mv.of hs).upd (by simp)) ?_
   rw[c5,List.map_dropLast]
theorem VX:FnScope ["_law_script","_law_turn","_law_many","_law_cells","_law_found","_law_left","_law_k","_law_at","_law_place","_law_number"] ["_law_script","_law_turn","_law_many"] (i7 IV):=by ac_rfl
def Qdj(H1:Hp)(j:Nat)(ys:List V)(σ:St)(L:Hp):Prop:=∃(ls:List Int) (v0:Option V),ys=ls.map V.int/\ls.length=j/\L=H1/\σ=[v0]
def QcB(a ce fo le:Addr)(t m:Int)(n:Nat)(H:Hp)(i:Nat)(σ:St)(L:Hp):Prop:=∃(ds:List FC) (ls:List Int) (v6 v7 v8 v9:Option V),σ=[some (.ref a),some (.int t),some (.int m),some (.ref ce),some (.ref fo),some (.ref le),v6,v7,v8,v9]/\j9 H L/\
 L fo=some (.lst (ds.map dI))/\L le=some (.lst (ls.map V.int))/\ds.length<=i/\ls.length=n
def Qdi(a ce fo:Addr)(t m:Int)(H:Hp)(i:Nat)(σ:St)(L:Hp):Prop:=∃(ds:List FC) (v5 v6 v7 v8 v9:Option V),σ=[some (.ref a),some (.int t),some (.int m),some (.ref ce),some (.ref fo),v5,v6,v7,v8,v9]/\j9 H L/\
 L fo=some (.lst (ds.map dI))/\ds.length<=i
theorem TK(F:Fun K "_law_draws" "_law_draws" IV f fd)(T:Txt mg):FnOk P w K mg bs0 x8 1 f fd ["_law_script","_law_turn","_law_many"] (DS K):=by
 refine F.ok VX (fun vs H Q E h=> ?_) (fun H9 A outer s H vs Q E hr h=> ?_)
 ·obtain⟨a,ns,t,m,rfl,_⟩:=h
  rfl
 obtain⟨a,ns,t,m,rfl,hS,E2,t0,t1,m0,m1,q⟩:=h
 refine⟨_,(c6 (i8 (i:=3) VX.nd rfl (Or.inl rfl) (k8 Y7 (Cq (slL K) (i6 0) IZ (BA j0)) (B4 (c4 (i6 1) c8))))
  (c6 (i8 (i:=4) VX.nd rfl (Or.inl rfl) (B4 c8))
  (c6 (C4 (o4 Dd (k8 E9 (k8 X8 (N7 (Lj K) (i6 3) j0 (fun _ _=>rfl)) j0) j0) j0 (q5 _)) (c6 (Ow (i:=5) VX.nd rfl rfl (N:=["_law_cell"]) (pick:=[none]) (NX:=["_law_script","_law_turn","_law_many","_law_cells","_law_found","_law_left","_law_k","_law_at","_law_place","_law_number"]) (sX:=i7 IV) (by decide+kernel) rfl rfl rfl (r9 K (i6 3))
    (fun _ _ _ _=>(j5 (i:=0) (by decide+kernel:(["_law_cell"]:List Str).Nodup) rfl (Or.inl rfl))) (fun _ _ _ _=>R0) (fun _ _ _ _=>(k8 X8 (i6 0) j0)))
  (c6 (x9 o8 rfl (K4 rfl T.range (c4 (k8 K6 (i6 1) (i6 2)) c8)) (j5 (i:=6) VX.nd rfl (Or.inl rfl))
   (c6 (i8 (i:=7) VX.nd rfl (Or.inl rfl) (k8 E9 (i6 6) (j6 (Ba K) rfl T.len A9 (c4 (i6 5) c8))))
  (c6 (C4 (o4 KQ (i6 6) (i6 1) (q5 _)) (e7 (q0 (Ca K B6 N0 M8 y8 (i6 4) (c4 (k8 E9 (N7 (Lj K) (i6 5) (i6 7) (fun _ _=>rfl)) j0) c8)))) o7)
  (e7 (Qan (k8 Tw (N7 (Lj K) (i6 5) (i6 7) (fun _ _=>rfl)) j0) (Qar (i6 5) (i6 7) Sv))))))
  (e7 (l6 (i6 4))))) o7)
  (c6 (x9 o8 rfl (K4 rfl T.range (c4 (i6 2) c8)) (j5 (i:=6) VX.nd rfl (Or.inl rfl))
   (c6 (i8 (i:=8) VX.nd rfl (Or.inl rfl) (k8 K6 (k8 AZ (k8 AZ (k8 K6 (i6 6) (i6 1)) (k8 K6 (i6 6) (i6 1))) j0) j0))
  (c6 (i8 (i:=9) VX.nd rfl (Or.inl rfl) (k8 E9 (k8 AZ (k8 K6 (k8 E9 (N7 (Lj K) (i6 3) (k8 E9 (i6 6) (j6 (Ba K) rfl T.len A9 (c4 (i6 3) c8))) (fun _ _=>rfl)) j0) (i6 8)) j0) j0))
  (c6 (i8 (i:=9) VX.nd rfl (Or.inl rfl) (k8 E9 (k8 K6 (k8 AZ (i6 9) (i6 9)) (k8 AZ j0 (i6 6))) j0))
  (e7 (q0 (Ca K B6 N0 M8 y8 (i6 4) (c4 (k8 E9 (k8 AZ (i6 9) (i6 9)) j0) c8))))))))
  (e7 (l6 (i6 4))))))),?_⟩
 and_intros
 simpa only[l8]
 refine⟨_,hS,fun p1 h1=>⟨by decide,fun p2 h2=> ?_⟩⟩
 rw[UU] at h2⊢
 have hcl:(Z8 ns none (some 63)).length<=63:=by
  unfold Z8
  rw[I9,GG]
  omega
 refine⟨_,k7 c5 h2,_,c5,?_,fun ce hce=>⟨by decide,fun fo DH=> ?_⟩⟩
 ·rw[i5,Aa]
  exact T9 (by omega)
 have ecs:(Z8 ns none (some 63)).map V.int++[V.int t]=(Z8 ns none (some 63)++[t]).map V.int:=by rw[n4];rfl
 rw[ecs] at DH⊢
 have ecl:(Z8 ns none (some 63)++[t]).length<=64/\0<(Z8 ns none (some 63)++[t]).length:=by
  rw[l0,Aa]
  omega
 generalize Z8 ns none (some 63)++[t]=cs at DH ecl⊢
 obtain⟨cl1,cl0⟩:=ecl
 have s2:j9 H (upd (upd (upd H p1 (.lst ((Z8 ns none (some 63)).map V.int))) p2 (.lst [V.int t])) ce (.lst (cs.map V.int))):=(d0 h1 _).trans ((d0 h2 _).trans (d0 hce _))
 have e2:(upd (upd (upd H p1 (.lst ((Z8 ns none (some 63)).map V.int))) p2 (.lst [V.int t])) ce (.lst (cs.map V.int))) ce=some (.lst (cs.map V.int)):=c5
 generalize upd (upd (upd H p1 (.lst ((Z8 ns none (some 63)).map V.int))) p2 (.lst [V.int t])) ce (.lst (cs.map V.int))=H2 at DH s2 e2⊢
 have fH:H fo=none:=s2.free DH
 have s23:j9 H2 (upd H2 fo (.lst [])):=d0 DH _
 have s3:j9 H (upd H2 fo (.lst [])):=s2.trans (d0 DH _)
 have e3:(upd H2 fo (.lst [])) ce=some (.lst (cs.map V.int)):=(d0 DH _) _ _ e2
 have e4:(upd H2 fo (.lst [])) fo=some (.lst []):=c5
 have nce:ce≠fo:=fun z=>by subst z;rw[DH] at e2;cases e2
 generalize upd H2 fo (.lst [])=H3 at s23 s3 e3 e4⊢
 obtain⟨v0,hv0⟩:=GC (ns:=cs) (k:=0) (by omega) (by omega)
 refine⟨_,o6.of e3,_,hv0,_,rfl,⟨by decide,by decide⟩,by decide,O3 (fun _=>⟨⟨_,o6.of e3⟩,?_⟩) (fun _=> ?_)⟩
 ·refine Y9 (cs.map V.int) (Qdj H3) ⟨[],none,rfl,rfl,rfl,rfl⟩ ?_ ?_ ?_
  ·rintro i ys σ L hi ⟨ls,u0,rfl,hl,rfl,rfl⟩
   refine⟨o6.of e3,?_⟩
   rw[i5] at hi⊢
   exact T9 (by omega)
  ·rintro i x ys σ L hx ⟨ls,u0,rfl,hl,rfl,rfl⟩
   obtain⟨z,rfl,_⟩:=MX hx
   simpa only[l8]
   exact⟨⟨by decide,by decide⟩,ls++[_],_,by rw[n4];rfl,by rw[l0,hl];rfl,rfl,rfl⟩
  ·rintro ys σ L ⟨ls,u0,rfl,hl,rfl,rfl⟩ le Bc
   rw[i5] at hl
   refine⟨by omega,by omega,?_⟩
   have nfl:fo≠le:=k9 e4 Bc
   have fle:H le=none:=s3.free Bc
   refine O8 (lo:=0) (QcB a ce fo le t m cs.length H) ⟨[],ls,none,none,none,none,rfl,s3.trans (d0 Bc _),(d0 Bc _) _ _ e4,c5,l9 _,hl⟩ ?_ ?_
   ·rintro i σ M hi ⟨ds,ls,v6,v7,v8,v9,rfl,sM,hf,hl2,hdl,hll⟩
    simpa only[l8]
    have cp:(0:Int)<(((ls.map V.int).length:Nat):Int):=by rw[i5];omega
    have x0:=V3 (0+(i:Int)) (show (((ls.map V.int).length:Nat):Int)≠0 by omega)
    have x1:=V2 (0+(i:Int)) cp
    rw[i5] at x0 x1
    obtain⟨v,hv⟩:=GC (ns:=ls) x0 x1
    refine⟨_, .inl (o6.of hl2),cp,?_⟩
    rw[i5]
    have fin:∀(M':Hp) (ds':List FC) (v6 v7 v8 v9:Option V),j9 H M'->M' fo=some (.lst (ds'.map dI))->M' le=some (.lst (ls.map V.int))->ds'.length<=i+1->∃x,o6 K M' le x/\∃x_1,DI x ((0+(i:Int)) % (ls.length:Int))=some x_1/\∃j,x_1=V.int j/\Zd j 2147483587/\∃y,M' le=some (.lst y)/\∃k,Uj y.length ((0+(i:Int)) % (ls.length:Int))=some k/\
      QcB a ce fo le t m cs.length H (i+1) [some (.ref a),some (.int t),some (.int m),some (.ref ce),some (.ref fo),some (.ref le),v6,v7,v8,v9] (upd M' le (.lst (y.set k (.int (j/2147483587))))):=fun M' ds' v6 v7 v8 v9 q1 q2 q3 q4=>
     ⟨_,o6.of q3,_,hv,_,rfl,⟨by decide,by decide⟩,_,q3,_,Qa9 x0 (by rw[i5];exact x1),ds',ls.set _ _,_,_,_,_,rfl,q1.newer fle _,by rw[i4 nfl];exact q2,by rw[c5,List.map_set],q4,by rw[List.length_set];exact hll⟩
    refine O3 (fun _=> ?_) (fun _=> ?_)
    ·refine⟨.inl ⟨rfl,_,o6.of hf⟩,_,o6.of hl2,_,hv,_,rfl,by decide,_,hf,P6 (by rw[i5];omega),?_⟩
     exact fin _ (ds++[d31 _]) _ _ _ _ (sM.newer fH _) (by rw[c5,n4];rfl) (by rw[i4 nfl.symm];exact hl2) (by rw[l0,Aa];omega)
    ·exact fin _ ds _ _ _ _ sM hf hl2 (by omega)
   ·rintro σ M ⟨ds,ls,v6,v7,v8,v9,rfl,sM,hf,hl2,hdl,hll⟩
    simpa only[l8]
    exact q fo ds M sM fH hf
 ·refine⟨by omega,by omega,?_⟩
  refine O8 (lo:=0) (Qdi a ce fo t m H2) ⟨[],none,none,none,none,none,rfl,s23,e4,l9 _⟩ ?_ ?_
  ·rintro i σ M hi ⟨ds,v5,v6,v7,v8,v9,rfl,sM,hf,hdl⟩
   simpa only[l8]
   have ec:=sM _ _ e2
   have cp:(0:Int)<(((cs.map V.int).length:Nat):Int):=by rw[i5];omega
   have x0:=V3 (0+(i:Int)) (show (((cs.map V.int).length:Nat):Int)≠0 by omega)
   have x1:=V2 (0+(i:Int)) cp
   obtain⟨v,hv⟩:=GC (ns:=cs) x0 (by rw[i5] at x1⊢;exact x1)
   refine⟨.inl ⟨by omega,by omega⟩, .inr ⟨by decide,by decide⟩,_, .inl (o6.of ec),cp,_,o6.of ec,_,hv,_,rfl,by decide, .inr ⟨by decide,by decide⟩,by decide,LC (by decide) (by decide), .inl ⟨by decide,by decide⟩,by decide, .inl ⟨rfl,_,o6.of hf⟩,LC (by decide) (by decide),by decide,_,hf,P6 (by rw[i5];omega),?_⟩
   exact⟨ds++[d31 _],_,_,_,_,_,rfl,sM.newer DH _,by rw[c5,n4];rfl,by rw[l0,Aa];omega⟩
  ·rintro σ M ⟨ds,v5,v6,v7,v8,v9,rfl,sM,hf,hdl⟩
   simpa only[l8]
   exact q fo ds M (s2.trans sM) fH hf
mutual
def MK:DV->Bool
 | .int _=>true
 | .str _=>true
 | .lst ds=>decide (ds.length<=16000000)&&EB ds
 | .tup ds=>decide (ds.length<=16000000)&&EB ds
 | .non=>false
 | .bl _=>false
def EB:List DV->Bool
 |[]=>true
 |d::ds=>MK d&&EB ds
end
theorem FY:∀{ds:List DV} {i:Nat} {d:DV},EB ds=true->ds[i]? =some d->MK d=true
 |[],i,d,_,e=>by simp at e
 |x::ds,0,d,h,e=>by rw[EB,Q0] at h;simp at e;subst e;exact h.1
 |x::ds,i+1,d,h,e=>by rw[EB,Q0] at h;exact FY (i:=i) h.2 (by simpa using e)
theorem Gy:∀{ds:List DV} {i:Nat} {d:DV},ds[i]? =some d->Hg d<=AK ds
 |[],i,d,e=>by simp at e
 |x::ds,0,d,e=>by simp at e;subst e;rw[AK];exact Nat.le_max_left _ _
 |x::ds,i+1,d,e=>by rw[AK];exact Ad (Gy (i:=i) (by simpa using e)) (Nat.le_max_right _ _)
def T2(n:Nat):Sp:=fun vs H Q _=>∃(x y:V) (d:DV),vs=[x,y]/\n8 H d x/\n8 H d y/\MK d=true/\Hg d<n/\Q (.bl true) H
theorem ML:FnOk P w K mg bs0 x8 0 f fd ["_law_found","_law_due"] (T2 0):=by
 have no:∀vs H Q E,¬T2 0 vs H Q E:=fun vs H Q E h=>by
  obtain⟨x,y,d,_,_,_,_,h1,_⟩:=h
  omega
 exact⟨fun vs H Q E h=>absurd h (no vs H Q E),fun A outer s H args us vs Q E _ _ _ _ h=>absurd h (no vs H Q E)⟩
theorem scA:FnScope ["_law_found","_law_due","_law_k"] ["_law_found","_law_due"] (i7 IW):=by ac_rfl
def QcY(a b:Addr)(H:Hp)(_:Nat)(σ:St)(L:Hp):Prop:=∃v2:Option V,σ=[some (.ref a),some (.ref b),v2]/\L=H
theorem TM{n:Nat}(F:Fun K "_law_alike" "_law_alike" IW f fd)(T:Txt mg)(GA:FnOk P w K mg bs0 x8 n f fd ["_law_found","_law_due"] (T2 n))(bA:Binds K fd ["_law_found","_law_due"] [])(kA:PySem.W.keepIn K (.ref f)=true)(mA:mg "_law_alike"=some (.ref f)):
  FnOk P w K mg bs0 x8 (n+1) f fd ["_law_found","_law_due"] (T2 (n+1)):=by
 refine F.ok scA (fun vs H Q E h=> ?_) (fun H9 A outer s H vs Q E hr h=> ?_)
 ·obtain⟨x,y,d,rfl,_⟩:=h
  rfl
 obtain⟨x,y,d,rfl,hx,hy,hk,hdp,q⟩:=h
 refine⟨_,(c6 (C4 (Q6 (j6 (V7 K) rfl T.isinstance (by decide+kernel) (c4 (i6 1) (c4 (Z2 (v:= .ty "str") rfl T.str (by decide+kernel) rfl) c8)))) (e7 (l6 (EA (j6 (V7 K) rfl T.isinstance (by decide+kernel) (c4 (i6 0) (c4 (Z2 (v:= .ty "str") rfl T.str (by decide+kernel) rfl) c8))) (Dp (Fs Dd (i6 0) (i6 1) (q5 _)))))) o7)
  (c6 (C4 (Q6 (j6 (V7 K) rfl T.isinstance (by decide+kernel) (c4 (i6 1) (c4 (Z2 (v:= .ty "int") rfl T.int (by decide+kernel) rfl) c8)))) (e7 (l6 (EA (j6 (V7 K) rfl T.isinstance (by decide+kernel) (c4 (i6 0) (c4 (Z2 (v:= .ty "int") rfl T.int (by decide+kernel) rfl) c8))) (EA (Tq (j6 (V7 K) rfl T.isinstance (by decide+kernel) (c4 (i6 0) (c4 (Z2 (v:= .ty "bool") rfl T.bool (by decide+kernel) rfl) c8)))) (Dp (Fs Dd (i6 0) (i6 1) (q5 _))))))) o7)
  (c6 (C4 (Q6 (j6 (V7 K) rfl T.isinstance (by decide+kernel) (c4 (i6 1) (c4 (Z2 (v:= .ty "list") rfl T.list (by decide+kernel) rfl) c8)))) (e7 (C4 (Q7 (Q6 (j6 (V7 K) rfl T.isinstance (by decide+kernel) (c4 (i6 0) (c4 (Z2 (v:= .ty "list") rfl T.list (by decide+kernel) rfl) c8))))) (e7 (l6 Ay)) o7)) (e7 (C4 (Q7 (Q6 (j6 (V7 K) rfl T.isinstance (by decide+kernel) (c4 (i6 0) (c4 (Z2 (v:= .ty "tuple") rfl T.tuple (by decide+kernel) rfl) c8))))) (e7 (l6 Ay)) o7)))
  (c6 (C4 (o4 KP (j6 (Ba K) rfl T.len A9 (c4 (i6 0) c8)) (j6 (Ba K) rfl T.len A9 (c4 (i6 1) c8)) (q5 _)) (e7 (l6 Ay)) o7)
  (c6 (x9 o8 rfl (K4 rfl T.range (c4 (j6 (Ba K) rfl T.len A9 (c4 (i6 1) c8)) c8)) (j5 (i:=2) scA.nd rfl (Or.inl rfl))
   (e7 (C4 (Q7 (Q6 (i9 GA hr rfl mA kA bA .nil j3 (c4 (N7 ((Lj K).or (Xl K)) (i6 0) (i6 2) (fun _ _=>rfl)) (c4 (N7 ((Lj K).or (Xl K)) (i6 1) (i6 2) (fun _ _=>rfl)) c8))))) (e7 (l6 Ay)) o7)))
  (e7 (l6 Ay))))))),?_⟩
 and_intros
 simpa only[V.ty.injEq]
 cases d with
 |non=>simp [MK] at hk
 |bl b=>simp [MK] at hk
 |int i=>
  rw[n8] at hx hy
  subst hx hy
  refine⟨_, .int i,false,rfl,Bb ⟨_, .int i,true,rfl,MV ⟨_, .int i,true,rfl,MV ⟨_, .int i,false,rfl,MV ⟨rfl,?_⟩⟩⟩⟩⟩
  rw[R8 rfl]
  exact q
 |str z=>
  rw[n8] at hx hy
  subst hx hy
  refine⟨_, .str z,true,rfl,MV ⟨_, .str z,true,rfl,MV ⟨rfl,?_⟩⟩⟩
  rw[R8 rfl]
  exact q
 |lst ds=>
  rw[n8] at hx hy
  obtain⟨a,xs,rfl,ha,Hv⟩:=hx
  obtain⟨b,ys,rfl,hb,Kb⟩:=hy
  have el:xs.length=ys.length:=Hv.length.trans Kb.length.symm
  rw[MK,Q0] at hk
  have hk':EB ds=true:=hk.2
  have hsz0:=A2 hk.1
  have hdp':AK ds+1<n+1:=by rw[Hg] at hdp;exact hdp
  have hsz:=Kb.length
  refine⟨_, .lst hb,false,rfl,Bb ⟨_, .lst hb,false,rfl,Bb ⟨_, .lst hb,true,rfl,MV ⟨_, .lst ha,true,rfl,Bb ?_⟩⟩⟩⟩
  refine⟨a,rfl,xs, .inl (o6.of ha),b,rfl,ys, .inl (o6.of hb),?_⟩
  rw[el]
  refine YC rfl ?_
  refine⟨b,rfl,ys, .inl (o6.of hb),by omega,by omega,?_⟩
  refine O8 (lo:=0) (n:=((ys.length:Nat):Int).toNat) (QcY a b H) ⟨none,rfl,rfl⟩ ?_ ?_
  ·rintro i σ L hi ⟨v2,rfl,rfl⟩
   have hi':i<ys.length:=by omega
   have gx:=Hv.get (i:=i) (u9 (by omega))
   have gy:=Kb.get (i:=i) (u9 hi')
   obtain⟨d1,e1,hd1⟩:=gx
   obtain⟨d2,e2,hd2⟩:=gy
   rw[e1] at e2
   cases e2
   simpa only[T2]
   have e0:(0:Int)+(i:Int)=((i:Nat):Int):=by omega
   have ax:DI xs (0+(i:Int))=some xs[i]:=by rw[e0];exact V9 (u9 (by omega))
   have ay:DI ys (0+(i:Int))=some ys[i]:=by rw[e0];exact V9 (u9 hi')
   exact .inl ⟨xs,o6.of ha,_,ax, .inl ⟨ys,o6.of hb,_,ay,d1,hd1,hd2,FY hk' e1,LI (Gy e1) (by omega),Bb ⟨_,rfl,rfl⟩⟩⟩
  ·rintro σ L ⟨v2,rfl,rfl⟩
   simpa only[l8]
   exact q
 |tup ds=>
  rw[n8] at hx hy
  obtain⟨a,xs,rfl,ha,Hv⟩:=hx
  obtain⟨b,ys,rfl,hb,Kb⟩:=hy
  have el:xs.length=ys.length:=Hv.length.trans Kb.length.symm
  rw[MK,Q0] at hk
  have hk':EB ds=true:=hk.2
  have hsz0:=A2 hk.1
  have hdp':AK ds+1<n+1:=by rw[Hg] at hdp;exact hdp
  have hsz:=Kb.length
  refine⟨_, .tup hb,false,rfl,Bb ⟨_, .tup hb,false,rfl,Bb ⟨_, .tup hb,false,rfl,Bb ⟨_, .tup ha,true,rfl,Bb ?_⟩⟩⟩⟩
  refine⟨a,rfl,xs, .inr (AG.of ha),b,rfl,ys, .inr (AG.of hb),?_⟩
  rw[el]
  refine YC rfl ?_
  refine⟨b,rfl,ys, .inr (AG.of hb),by omega,by omega,?_⟩
  refine O8 (lo:=0) (n:=((ys.length:Nat):Int).toNat) (QcY a b H) ⟨none,rfl,rfl⟩ ?_ ?_
  ·rintro i σ L hi ⟨v2,rfl,rfl⟩
   have hi':i<ys.length:=by omega
   have gx:=Hv.get (i:=i) (u9 (by omega))
   have gy:=Kb.get (i:=i) (u9 hi')
   obtain⟨d1,e1,hd1⟩:=gx
   obtain⟨d2,e2,hd2⟩:=gy
   rw[e1] at e2
   cases e2
   simpa only[T2]
   have e0:(0:Int)+(i:Int)=((i:Nat):Int):=by omega
   have ax:DI xs (0+(i:Int))=some xs[i]:=by rw[e0];exact V9 (u9 (by omega))
   have ay:DI ys (0+(i:Int))=some ys[i]:=by rw[e0];exact V9 (u9 hi')
   exact .inr ⟨xs,AG.of ha,_,ax, .inr ⟨ys,AG.of hb,_,ay,d1,hd1,hd2,FY hk' e1,LI (Gy e1) (by omega),Bb ⟨_,rfl,rfl⟩⟩⟩
  ·rintro σ L ⟨v2,rfl,rfl⟩
   simpa only[l8]
   exact q
theorem Va(F:Fun K "_law_alike" "_law_alike" IW f fd)(T:Txt mg)(bA:Binds K fd ["_law_found","_law_due"] [])(kA:PySem.W.keepIn K (.ref f)=true)(mA:mg "_law_alike"=some (.ref f)):∀n:Nat,FnOk P w K mg bs0 x8 n f fd ["_law_found","_law_due"] (T2 n)
 |0=>ML
 |n+1=>TM F T (Va F T bA kA mA n) bA kA mA
theorem Eb{α:Type}{g:α->DV}:∀{l:List α},(∀x∈l,MK (g x)=true)->EB (l.map g)=true
 |[],_=>rfl
 |x::l,h=>by
  rw[List.map_cons,EB,h x C0,Eb fun y hy=>h y (D5 _ hy)]
  rfl
theorem FZ{l:List Int}(h:l.length<=16000000):MK (.lst (l.map DV.int))=true:=by
 rw[MK,i5,R8 h,Eb fun _ _=>rfl]
 rfl
theorem KR{l:List Str}(h:l.length<=16000000):MK (.lst (l.map DV.str))=true:=by
 rw[MK,i5,R8 h,Eb fun _ _=>rfl]
 rfl
theorem TN{r:Rw}(h:r.length<=16000000)(h':∀q∈r,q.2.length<=16000000):MK (.lst (r.map Df))=true:=by
 rw[MK,i5,R8 h,Eb fun q hq=> ?_]
 ·rfl
 ·unfold Df
  rw[MK,EB,EB,EB,FZ (h' q hq)]
  rfl
def Sl:Sp:=fun vs H Q _=>∃z:Str,vs=[.str z]/\z.length<=1000/\Px z/\
 ∀(r:Addr) (xs:List V) (H':Hp),j9 H H'->H r=none->H' r=some (.lst xs)->i3 (Bs r (nw H H')) ((DL z.cps.toList).map We) xs->Q (.ref r) H'
theorem Xs{H M:Hp}{r:Addr}{o:HO}:Bs r (nw H (upd M r o))=Bs r (nw H M):=by
 funext b
 by_cases c:b=r
 ·rw[c];unfold Bs;simp
 ·rw[CW c,CW c]
  unfold nw
  rw[i4 c]
abbrev CB:Str:="ABCDEFGHIJKLMNOPQRSTUVWXYZ"
abbrev EN:Str:="abcdefghijklmnopqrstuvwxyz"
theorem Qbi:∀c,c<128->decide (c∈(EN++CB++("0123456789":Str)).cps.toList)=ws c:=by decide+kernel
theorem Ll:∀c,c<128->decide (c∈CB.cps.toList)=decide (65<=c/\c<=90):=by decide+kernel
theorem UY:∀c,c<128->(65<=c/\c<=90)->DI EN.cps.toList (Txt.find CB ⟨#[c]⟩)=some (c+32):=by decide+kernel
theorem Hr:FnScope ["_law_text","_law_great","_law_small","_law_found","_law_word","_law_at","_law_sign"] ["_law_text"] (i7 sLW):=by ac_rfl
def Uo(z:Str)(r:Addr)(H:Hp)(i:Nat)(σ:St)(L:Hp):Prop:=∃(xs:List V) (v5 v6:Option V),σ=[some (.str z),some (.str CB),some (.str EN),some (.ref r),some (.str ⟨(scan z.cps.toList i).2.toArray⟩),v5,v6]/\j9 H L/\L r=some (.lst xs)/\xs.length<=i/\
 i3 (Bs r (nw H L)) ((scan z.cps.toList i).1.map We) xs
theorem Qcp(F:Fun K "_law_words" "_law_words" sLW f fd)(T:Txt mg):FnOk P w K mg bs0 x8 1 f fd ["_law_text"] Sl:=by
 refine F.ok Hr (fun vs H Q E h=> ?_) (fun H9 A outer s H vs Q E hr h=> ?_)
 ·obtain⟨z,rfl,_⟩:=h
  rfl
 obtain⟨z,rfl,hz,hA,q⟩:=h
 refine⟨_,(c6 (i8 (i:=1) Hr.nd rfl (Or.inl rfl) A5)
  (c6 (i8 (i:=2) Hr.nd rfl (Or.inl rfl) A5)
  (c6 (i8 (i:=3) Hr.nd rfl (Or.inl rfl) (B4 c8))
  (c6 (i8 (i:=4) Hr.nd rfl (Or.inl rfl) A5)
  (c6 (x9 o8 rfl (K4 rfl T.range (c4 (k8 K6 (j6 O4 rfl T.len A9 (c4 (i6 0) c8)) j0) c8)) (j5 (i:=5) Hr.nd rfl (Or.inl rfl))
   (c6 (i8 (i:=6) Hr.nd rfl (Or.inl rfl) (Cq Ss (i6 0) (BA (i6 5)) (BA (k8 K6 (i6 5) j0))))
  (e7 (C4 (PW.pt (Td (o4 KP (i6 6) A5 (q5 _)) (Ot (o4 HV (i6 6) (k8 U0 (k8 U0 (i6 2) (i6 1)) A5) rfl)))) (c6 (C4 (o4 HV (i6 6) (i6 1) rfl) (e7 (i8 (i:=6) Hr.nd rfl (Or.inl rfl) (N7 Gg (i6 2) (Ca K EQ Vp Vn (La rfl) (i6 1) (c4 (i6 6) c8)) (fun _ _=>rfl)))) o7)
  (e7 (i8 (i:=4) Hr.nd rfl (Or.inl rfl) (k8 U0 (i6 4) (i6 6))))) (e7 (C4 (o4 KP (i6 4) A5 (q5 _)) (c6 (q0 (Ca K B6 N0 M8 y8 (i6 3) (c4 (P8 (c4 (i6 4) (c4 (k8 Cs (i6 5) (j6 O4 rfl T.len A9 (c4 (i6 4) c8))) (c4 (i6 5) c8)))) c8)))
  (e7 (i8 (i:=4) Hr.nd rfl (Or.inl rfl) A5))) o7))))))
  (e7 (l6 (i6 3)))))))),?_⟩
 have hsz:z.length<=sizeLine:=T9 hz
 and_intros
 simpa only[l8]
 refine⟨by decide,fun r hn=>⟨hsz,by omega,by omega,?_⟩⟩
 refine O8 (lo:=0) (Uo z r H) ⟨[],none,none,rfl,d0 hn _,c5,l9 _,i3.nil⟩ ?_ ?_
 ·rintro i σ L hi ⟨xs,v5,v6,rfl,sL,hR,De,hD⟩
  have hi':i<=z.length:=by omega
  simpa only[l8]
  have ec:Z8 z.cps.toList (some (0+(i:Int))) (some (0+(i:Int)+1))=(z.cps.toList.drop i).take 1:=by
   have e1:(0:Int)+(i:Int)=((i:Nat):Int):=by omega
   have e2:(0:Int)+(i:Int)+1=((i+1:Nat):Int):=by omega
   rw[e2,e1,LA _ (by omega)]
   congr 1
   omega
  rw[ec]
  have hWl:=AY z.cps.toList i
  have Ra:scan z.cps.toList (i+1)=Zs i z.cps.toList[i]? (scan z.cps.toList i):=rfl
  have e00:("":Str)=⟨#[]⟩:=by decide+kernel
  have strE:∀l:List Nat,((⟨l.toArray⟩:Str)="")↔l=[]:=fun l=>by
   rw[e00]
   constructor
   ·intro h
    have h':=congrArg Str.cps h
    simpa using h'
   ·rintro rfl;rfl
  -- a word's end
  have fl:∀sg:Str,Py z.cps.toList[i]? =false->
    if (!decide ((⟨(scan z.cps.toList i).2.toArray⟩:Str)=""))=true then
     tyV K "list" (V.ref r) L/\(⟨(scan z.cps.toList i).2.toArray⟩:Str).length<=sizeLine/\3<=sizeLine/\∀p:Addr,L p=none->∃x,
      upd L p (.tup [.str ⟨(scan z.cps.toList i).2.toArray⟩, .int (0+(i:Int)-((⟨(scan z.cps.toList i).2.toArray⟩:Str).length:Int)), .int (0+(i:Int))]) r=some (.lst x)/\x.length<sizeLine/\
      Uo z r H (i+1) [some (.str z),some (.str CB),some (.str EN),some (.ref r),some (.str ""),some (.int (0+(i:Int))),some (.str sg)]
       (upd (upd L p (.tup [.str ⟨(scan z.cps.toList i).2.toArray⟩, .int (0+(i:Int)-((⟨(scan z.cps.toList i).2.toArray⟩:Str).length:Int)), .int (0+(i:Int))])) r (.lst (x++[.ref p])))
    else Uo z r H (i+1) [some (.str z),some (.str CB),some (.str EN),some (.ref r),some (.str ⟨(scan z.cps.toList i).2.toArray⟩),some (.int (0+(i:Int))),some (.str sg)] L:=fun sg hw=>by
   rw[Ar hw] at Ra
   refine O3 (fun c=> ?_) (fun c=> ?_)
   ·have Ig:(scan z.cps.toList i).2 ≠[]:=fun h=>by
     rw[R8 ((strE _).mpr h)] at c
     cases c
    rw[if_neg Ig] at Ra
    have E2:(⟨(scan z.cps.toList i).2.toArray⟩:Str).length=(scan z.cps.toList i).2.length:=by simp [Str.length]
    refine⟨.inl ⟨rfl,_,o6.of hR⟩,by rw[E2];exact T9 (by omega),by decide,fun p hp=>⟨xs,k7 hR hp,P6 (by omega),?_⟩⟩
    have npr:p≠r:=fun z=>by subst z;rw[hR] at hp;cases hp
    refine⟨xs++[.ref p],_,_,by rw[Ra,e00],(sL.trans (d0 hp _)).newer hn _,c5,by rw[l0,Aa];omega,?_⟩
    rw[Xs,Ra,n4]
    refine(i3.same (Ih (CU (d0 hp _))) _ _ hD).app (i3.one ?_)
    show n8 _ (We _) _
    rw[We,n8]
    refine⟨p,_,rfl,by rw[CW npr];exact C6 c5 (sL.free hp),?_⟩
    rw[i3]
    refine⟨_,_,rfl,by rw[n8],?_⟩
    have e1:(0:Int)+(i:Int)-((⟨(scan z.cps.toList i).2.toArray⟩:Str).length:Int)=((i-(scan z.cps.toList i).2.length:Nat):Int):=by rw[E2];omega
    have e2:(0:Int)+(i:Int)=((i:Nat):Int):=by omega
    rw[e1,e2]
    exact i3.ints [_,_]
   ·have he:(scan z.cps.toList i).2 =[]:=(strE _).mp (by
     cases hd:decide ((⟨(scan z.cps.toList i).2.toArray⟩:Str)="") with
     |true=>exact A2 hd
     |false=>rw[hd] at c;exact absurd rfl c)
    rw[if_pos he] at Ra
    exact⟨xs,_,_,by rw[Ra],sL,hR,by omega,by rw[Ra];exact hD⟩
  refine⟨hsz,?_⟩
  by_cases T8:i<z.length
  ·obtain⟨c,hg⟩:∃c,z.cps.toList[i]? =some c:=⟨_,u9 (by rw[P7];exact T8)⟩
   have hc:c<128:=hA c (E7 hg)
   have et:(z.cps.toList.drop i).take 1=[c]:=by
    rw[show (1:Nat)=0+1 from rfl,q9,M6,Bk,Nv,hg]
    rfl
   rw[et]
   have e1:([c]:List Nat).toArray= #[c]:=rfl
   rw[e1,if_pos (by rw[BG (fun h=>by have:=(strE [c]).mp h;cases this)];rfl)]
   refine⟨by decide+kernel,by decide+kernel,?_⟩
   have o1:=(NE (EN++CB++("0123456789":Str)) c).trans (Qbi c hc)
   have o2:=(NE CB c).trans (Ll c hc)
   rw[o1,o2]
   have hlw:(⟨(scan z.cps.toList i).2.toArray⟩:Str).length=(scan z.cps.toList i).2.length:=by simp [Str.length]
   refine O3 (fun hw=> ?_) (fun hw=> ?_)
   ·rw[hg,Cd hw] at Ra
    refine O3 (fun Rb=> ?_) (fun Rb=> ?_)
    ·have hgr':=A2 Rb
     refine⟨rfl,c,rfl,A2 ((Ll c hc).trans Rb),by decide+kernel,c+32,UY c hc hgr',by rw[hlw];exact T9 (by show _+1<=1000;omega),?_⟩
     refine⟨xs,some (.int (0+(i:Int))),some (.str ⟨#[c+32]⟩),?_,sL,hR,by omega,by rw[Ra];exact hD⟩
     rw[Ra]
     have es:sm c=c+32:=if_pos hgr'
     rw[es]
     have:((⟨(scan z.cps.toList i).2.toArray⟩:Str)++(⟨#[c+32]⟩:Str))=⟨((scan z.cps.toList i).2 ++[c+32]).toArray⟩:=by
      apply Str.ext'
      show (scan z.cps.toList i).2.toArray++ #[c+32]=_
      simp
     rw[this]
    ·have hgr':¬(65<=c/\c<=90):=fun h=>Rb (R8 h)
     refine⟨by rw[hlw];exact T9 (by show _+1<=1000;omega),?_⟩
     refine⟨xs,some (.int (0+(i:Int))),some (.str ⟨#[c]⟩),?_,sL,hR,by omega,by rw[Ra];exact hD⟩
     rw[Ra]
     have es:sm c=c:=if_neg hgr'
     rw[es]
     have:((⟨(scan z.cps.toList i).2.toArray⟩:Str)++(⟨#[c]⟩:Str))=⟨((scan z.cps.toList i).2 ++[c]).toArray⟩:=by
      apply Str.ext'
      show (scan z.cps.toList i).2.toArray++ #[c]=_
      simp
     rw[this]
   ·exact fl _ (by rw[hg];simpa [Py] using hw)
  ·have et:(z.cps.toList.drop i).take 1=[]:=by
    rw[EO (by rw[P7];omega)]
    rfl
   have hno:z.cps.toList[i]? =none:=CJ (by rw[P7];omega)
   rw[et,if_neg (by rw[R8 ((strE []).mpr rfl)];decide)]
   exact fl _ (by rw[hno];rfl)
 ·rintro σ L ⟨xs,v5,v6,rfl,sL,hR,De,hD⟩
  simpa only[l8]
  have en:((z.length:Int)+1).toNat=z.cps.toList.length+1:=by rw[P7];omega
  rw[en] at hD
  exact q r xs L sL hn hR hD
abbrev cLS:Str:=" !\"#$&'()*+,-./0123456789:;<=>?@ABCDEFGHIJKLMNOPQRSTUVWXYZ[\\]^_`abcdefghijklmnopqrstuvwxyz{|}~"
def RW:Sp:=fun vs H Q _=>vs=[]/\Q (.str cLS) H
theorem scG:FnScope [] [] (i7 MB):=by ac_rfl
theorem Qay(F:Fun K "_law_signs" "_law_signs" MB f fd):FnOk P w K mg bs0 x8 1 f fd [] RW:=by
 refine F.ok scG (fun vs H Q E h=> ?_) (fun H9 A outer s H vs Q E hr h=> ?_)
 ·obtain⟨rfl,_⟩:=h
  rfl
 obtain⟨rfl,q⟩:=h
 refine⟨_,(e7 (l6 A5)),?_⟩
 and_intros
 simpa only[l8]
 exact q
abbrev cLt:Str:="abcdefghijklmnopqrstuvwxyz"
theorem Ud:cLt.length=26:=by decide+kernel
theorem YA{k:Int}(h0:0<=k)(h:k<26):DI cLt.cps.toList k=some (97+k.toNat):=by
 have key:∀i,i<26->cLt.cps.toList[i]? =some (97+i):=by decide+kernel
 have e:k=((k.toNat:Nat):Int):=by omega
 rw[e]
 exact V9 (key _ (by omega))
def IA(ys:List Str):Prop:=ys.length=4/\ys.Pairwise (fun a b=>a.cps.toList<b.cps.toList)/\∀y∈ys,Az y=true
def Ku:Sp:=fun vs H Q _=>∃(d:Addr) (ns:List FC),vs=[.ref d]/\H d=some (.lst (ns.map dI))/\
 ∀(r:Addr) (ys:List Str) (ns':List FC) (H':Hp),Mv [d] H H'->H' d=some (.lst (ns'.map dI))->H r=none->H' r=some (.lst (ys.map V.str))->IA ys->Q (.ref r) H'
def Zx{v0:Addr}{H:Hp}{Q:VK}{E:XK}:=show Ku [.ref v0] H Q E=_ by
 simpa only[Ku]
 rfl
def QcI(num:Int)(L0:Hp)(i:Nat)(ys:List V)(σ:St)(L:Hp):Prop:=∃(cs:List Nat) (v0:Option V),ys=(Dq cs).map V.str/\cs.length=i/\(∀c∈cs,EE c=true)/\L=L0/\σ=[v0,some (.str cLt),some (.int num)]
def nmk(b:List Nat)(x:Nat):Str:=⟨#[97+x]⟩++⟨b.toArray⟩
theorem Ft(b:List Nat)(x:Nat):(nmk b x).cps.toList=(97+x)::b:=by
 show (#[97+x]++b.toArray).toList=_
 simp
theorem TW{b:List Nat}{x:Nat}(hb:∀c∈b,EE c=true)(hl:b.length<=8)(hx:x<=19):IA ((List.range 4).map fun k=>nmk b (x+k)):=by
 refine⟨by simp,?_,fun y hy=> ?_⟩
 ·refine JK.mpr (List.pairwise_lt_range.imp fun{i j} h=> ?_)
  rw[Ft,Ft]
  exact Nq.mpr (.inl (by omega))
 ·obtain⟨k,hk,rfl⟩:=y9.mp hy
  have hk4:k<4:=LM.mp hk
  unfold Az
  have e:(nmk b (x+k)).length=b.length+1:=by rw[<-P7,Ft];rfl
  rw[e,Ft,R8 (by omega),Bool.true_and,List.all_cons]
  rw[Q0]
  exact⟨R8 (by omega),GF.mpr hb⟩
def QcH(num:Int)(b:List Nat)(x:Nat)(L0:Hp)(i:Nat)(ys:List V)(σ:St)(L:Hp):Prop:=∃v0:Option V,ys=((List.range i).map fun k=>nmk b (x+k)).map V.str/\L=L0/\σ=[v0,some (.str ⟨b.toArray⟩),some (.str cLt),some (.int num)]
theorem Oi:FnScope ["_law_draws_here","_law_letters","_law_number","_law_base"] ["_law_draws_here"] (i7 SQ):=by ac_rfl
theorem QaG{gp:Addr}{dp:FuncData}(F:Fun K "_law_names" "_law_names" SQ f fd)(T:Txt mg)(GP:FnOk P w K mg bs0 x8 1 gp dp ["_law_draws_here"] W0)(bP:Binds K dp ["_law_draws_here"] [])(kP:PySem.W.keepIn K (.ref gp)=true)(mP:mg "_law_pop"=some (.ref gp)):FnOk P w K mg bs0 x8 2 f fd ["_law_draws_here"] Ku:=by
 refine F.ok Oi (fun vs H Q E h=> ?_) (fun H9 A outer s H vs Q E hr h=> ?_)
 ·obtain⟨d,ns,rfl,_⟩:=h
  rfl
 obtain⟨d,ns,rfl,hd,q⟩:=h
 refine⟨_,(c6 (i8 (i:=1) Oi.nd rfl (Or.inr rfl) A5)
  (c6 (i8 (i:=2) Oi.nd rfl (Or.inr rfl) (i9 GP hr rfl mP kP bP .nil j3 (c4 (i6 0) c8)))
  (c6 (i8 (i:=3) Oi.nd rfl (Or.inr rfl) (Ca K EQ Nn Nm (Jl K) A5 (c4 (X7 (N:=["_law_j","_law_letters","_law_number"]) (pick:=[none,some 1,some 2]) (NX:=nx5) (sX:=i7 SQ) (by decide+kernel) rfl rfl rfl (K4 rfl T.range (c4 (k8 E9 (i6 2) j0) c8))
    (fun _ _ _ _=>(j5 (i:=0) (by decide+kernel:(["_law_j","_law_letters","_law_number"]:List Str).Nodup) rfl (Or.inl rfl))) (fun _ _ _ _=>R0) (fun _ _ _ _=>(N7 Gg (i6 1) (k8 E9 (k8 K6 (k8 X8 (i6 2) j0) (k8 AZ (i6 0) (i6 0))) j0) (fun _ _=>rfl)))) c8)))
  (e7 (l6 (X7 (N:=["_law_k","_law_base","_law_letters","_law_number"]) (pick:=[none,some 3,some 1,some 2]) (NX:=nx5) (sX:=i7 SQ) (by decide+kernel) rfl rfl rfl (K4 rfl T.range (c4 j0 c8))
    (fun _ _ _ _=>(j5 (i:=0) (by decide+kernel:(["_law_k","_law_base","_law_letters","_law_number"]:List Str).Nodup) rfl (Or.inl rfl))) (fun _ _ _ _=>R0) (fun _ _ _ _=>(k8 U0 (N7 Gg (i6 2) (k8 K6 (k8 E9 (k8 X8 (i6 3) j0) j0) (i6 0)) (fun _ _=>rfl)) (i6 1))))))))),?_⟩
 and_intros
 simpa only[↓By,W0,↓Ta]
 refine⟨ns,hd,fun nu ns1 H1 m1 hd1=> ?_⟩
 generalize nu.1=num
 refine⟨rfl,by decide,by omega,by omega,?_⟩
 have n0:=V3 num (show (9:Int)≠0 by decide)
 have n1:=V2 num (show (0:Int)<9 by decide)
 refine AU (lo:=0) (QcI num H1) ⟨[],none,rfl,rfl,(fun c hc=>by cases hc),rfl,rfl⟩ ?_ ?_ ?_
 ·rintro k ys σ M hk2 ⟨cs,v0,rfl,hc1,hc2,rfl,rfl⟩
  rw[i5,i5,T6];omega
 ·rintro k ys σ M hk2 ⟨cs,v0,rfl,hc1,hc2,rfl,rfl⟩
  simpa only[l8]
  have y0:=V3 (num/150+(0+(k:Int))*(0+(k:Int))) (show (26:Int)≠0 by decide)
  have y1:=V2 (num/150+(0+(k:Int))*(0+(k:Int))) (show (0:Int)<26 by decide)
  refine⟨⟨by decide,by decide⟩, .inl ⟨by omega,by omega⟩,by decide,by rw[T6,Ud];decide,_,YA y0 y1,cs++[97+((num/150+(0+(k:Int))*(0+(k:Int))) % 26).toNat],_,by simp [Dq],by rw[l0,hc1];rfl,fun x hx=> ?_,rfl,rfl⟩
  rcases U3.mp hx with h1|h1
  ·exact hc2 x h1
  ·rw[D4.mp h1];exact R8 (by omega)
 ·rintro ys σ M ⟨cs,v0,rfl,hc1,hc2,rfl,rfl⟩ p2 hp2
  have ej:Txt.join "" (Dq cs)=(⟨cs.toArray⟩:Str):=Ui ⟨cs.toArray⟩
  have hcl:cs.length<=8:=by
   have:cs.length=(num % 9).toNat:=hc1
   omega
  have ebl:(⟨cs.toArray⟩:Str).length=cs.length:=by rw[<-P7]
  refine⟨p2,rfl,Dq cs,o6.of c5,1,fun y hy=> ?_,by rw[i5];omega,by decide+kernel,by decide,by decide,?_⟩
  ·obtain⟨c,_,rfl⟩:=y9.mp hy
   exact l9 _
  rw[ej]
  have x0:=V3 (num/7) (show (20:Int)≠0 by decide)
  have x1:=V2 (num/7) (show (0:Int)<20 by decide)
  have s2:=d0 hp2 (.lst ((Dq cs).map V.str))
  have hd2:=s2 _ _ hd1
  have m2:=m1.trans (Mv.of s2)
  generalize upd M p2 (.lst ((Dq cs).map V.str))=M2 at hd2 m2⊢
  refine AU (lo:=0) (QcH num cs (num/7 % 20).toNat M2) ⟨none,rfl,rfl,rfl⟩ ?_ ?_ ?_
  ·rintro k ys σ L hk2 ⟨v0,rfl,rfl,rfl⟩
   rw[i5,i5,List.length_range,T6];omega
  ·rintro k ys σ L hk2 ⟨v0,rfl,rfl,rfl⟩
   simpa only[l8]
   have hk4:k<4:=by omega
   refine⟨⟨by decide,by decide⟩,by decide,by rw[T6,Ud];decide,_,YA (by omega) (by omega),by rw[ebl,T6];show 1+cs.length<=_;omega,_,?_,rfl,rfl⟩
   rw[List.range_succ,n4,n4]
   congr 1
   show [V.str _]=[V.str (nmk cs ((num/7 % 20).toNat+k))]
   unfold nmk
   have e5:97+(num/7 % 20+(0+(k:Int))).toNat=97+((num/7 % 20).toNat+k):=by omega
   rw[e5]
  ·rintro ys σ L ⟨v0,rfl,rfl,rfl⟩ r hr0
   have s3:=d0 hr0 (.lst (((List.range (Int.toNat 4)).map fun k=>nmk cs ((num/7 % 20).toNat+k)).map V.str))
   exact q r _ ns1 _ (m2.trans (Mv.of s3)) (s3 _ _ hd2) (m2.free hd2 hr0) c5 (TW hc2 hcl (by omega))
def O5(z:Str):Prop:=Px z/\∀c∈z.cps.toList,c≠100/\c≠68
theorem EG{a b:Str}(ha:O5 a)(hb:O5 b):O5 (a++b):=by
 have e:(a++b).cps.toList=a.cps.toList++b.cps.toList:=by show (a.cps++b.cps).toList=_;rw[V4]
 refine⟨fun c hc=> ?_,fun c hc=> ?_⟩<;>(rw[e] at hc;rcases U3.mp hc with h|h)
 ·exact ha.1 c h
 ·exact hb.1 c h
 ·exact ha.2 c h
 ·exact hb.2 c h
theorem Du(a b:Str):(a++b).length=a.length+b.length:=by
 have e:(a++b).cps.toList=a.cps.toList++b.cps.toList:=by show (a.cps++b.cps).toList=_;rw[V4]
 rw[<-P7,e,l0,P7,P7]
theorem Tl{l:List Str}{k:Int}(h0:0<=k)(h:k<l.length):∃s∈l,DI (l.map V.str) k=some (.str s):=by
 obtain⟨v,h1,h2⟩:=UZ (xs:=l.map V.str) h0 (by rw[i5];exact h)
 obtain⟨s,h3,rfl⟩:=Ai h2
 exact⟨s,E7 h3,h1⟩
def wl8:List Str:=["ab","Ab","b","ba1","a1","0","zz","B"]
def wl6:List Str:=[" ",", ","-","' ","  ",""]
theorem Zj:∀s∈wl8,s.length<=3/\O5 s:=by unfold O5 Px;decide+kernel
theorem Zk:∀s∈wl6,s.length<=3/\O5 s:=by unfold O5 Px;decide+kernel
def Pw(ys:List Str)(d:List BN):Prop:=(d.map (·.1)).Sublist ys/\∀y∈d,y.2.length<=40/\O5 y.2
def KC:Sp:=fun vs H Q _=>∃(dr nm:Addr) (mo:Int) (ns:List FC) (ys:List Str),vs=[.ref dr, .ref nm, .int mo]/\H dr=some (.lst (ns.map dI))/\H nm=some (.lst (ys.map V.str))/\nm≠dr/\ys.length=4/\0<=mo/\mo<=6/\
 ∀(a:Addr) (d:List BN) (xs:List V) (ns':List FC) (H':Hp),Mv [dr] H H'->H' dr=some (.lst (ns'.map dI))->H a=none->H' a=some (.lst xs)->i3 (nw H H') (d.map Wf) xs->Pw ys d->Q (.ref a) H'
def ZD{v0:Addr}{v1:Addr}{v2:Int}{H:Hp}{Q:VK}{E:XK}:=show KC [.ref v0, .ref v1, .int v2] H Q E=_ by
 simpa only[KC]
 rfl
theorem Gw{H:Hp}{p:Addr}{x:BN}(h:H p=some (.tup [.str x.1, .str x.2])):n8 H (Wf x) (.ref p):=by
 rw[Wf,n8]
 exact⟨p,_,rfl,h,by rw[i3];exact⟨_,_,rfl,by rw[n8],by rw[i3];exact⟨_,_,rfl,by rw[n8],by rw[i3]⟩⟩⟩
theorem IS:FnScope ["_law_draws_here","_law_names_here","_law_most","_law_found","_law_number","_law_k","_law_text","_law_j","_law_one","_law_some"] ["_law_draws_here","_law_names_here","_law_most"] (i7 Qad):=by ac_rfl
def QcW(dr nm fo:Addr)(mo num:Int)(ys:List Str)(H:Hp)(i:Nat)(σ:St)(L:Hp):Prop:=∃(d:List BN) (xs:List V) (ns:List FC) (v5 v6 v7 v8 v9:Option V),σ=[some (.ref dr),some (.ref nm),some (.int mo),some (.ref fo),some (.int num),v5,v6,v7,v8,v9]/\Mv [dr] H L/\L dr=some (.lst (ns.map dI))/\L fo=some (.lst xs)/\i3 (DG [fo] (nw H L)) (d.map Wf) xs/\Pw (ys.take i) d/\d.length<=i
def QcV(dr nm fo:Addr)(mo num k:Int)(L0:Hp)(j:Nat)(σ:St)(L:Hp):Prop:=∃(z:Str) (ns:List FC) (v7 v8 v9:Option V),σ=[some (.ref dr),some (.ref nm),some (.int mo),some (.ref fo),some (.int num),some (.int k),some (.str z),v7,v8,v9]/\Mv [dr] L0 L/\L dr=some (.lst (ns.map dI))/\z.length<=6*j/\O5 z
theorem QaR{gp:Addr}{dp:FuncData}(F:Fun K "_law_document" "_law_document" Qad f fd)(T:Txt mg)(GP:FnOk P w K mg bs0 x8 1 gp dp ["_law_draws_here"] W0)(bP:Binds K dp ["_law_draws_here"] [])(kP:PySem.W.keepIn K (.ref gp)=true)(mP:mg "_law_pop"=some (.ref gp)):FnOk P w K mg bs0 x8 2 f fd ["_law_draws_here","_law_names_here","_law_most"] KC:=by
 refine F.ok IS (fun vs H Q E h=> ?_) (fun H9 A outer s H vs Q E hr h=> ?_)
 ·obtain⟨dr,nm,mo,ns,ys,rfl,_⟩:=h
  rfl
 obtain⟨dr,nm,mo,ns,ys,rfl,hd,Qt,nnd,hy4,mo0,mo6,q⟩:=h
 refine⟨_,(c6 (i8 (i:=3) IS.nd rfl (Or.inl rfl) (B4 c8))
  (c6 (i8 (i:=4) IS.nd rfl (Or.inl rfl) (i9 GP hr rfl mP kP bP .nil j3 (c4 (i6 0) c8)))
  (c6 (x9 o8 rfl (K4 rfl T.range (c4 (j6 (Ba K) rfl T.len A9 (c4 (i6 1) c8)) c8)) (j5 (i:=5) IS.nd rfl (Or.inl rfl))
   (e7 (C4 (o4 Dd (k8 E9 (k8 X8 (i6 4) (k8 K6 (i6 5) j0)) j0) j0 (q5 _)) (c6 (i8 (i:=6) IS.nd rfl (Or.inl rfl) A5)
  (c6 (x9 o8 rfl (K4 rfl T.range (c4 (k8 E9 (i9 GP hr rfl mP kP bP .nil j3 (c4 (i6 0) c8)) (k8 K6 (i6 2) j0)) c8)) (j5 (i:=7) IS.nd rfl (Or.inl rfl))
   (c6 (i8 (i:=8) IS.nd rfl (Or.inl rfl) (i9 GP hr rfl mP kP bP .nil j3 (c4 (i6 0) c8)))
  (@Qb7 _ _ _ _ _ (@Qf _ 9 _ _ _ _ _ _ IS.nd rfl (Or.inl rfl) rfl rfl (.inl rfl))
  (e7 (i8 (i:=6) IS.nd rfl (Or.inl rfl) (k8 U0 (k8 U0 (i6 6) (N7 (Lj K) (i6 9) (k8 E9 (i6 8) j0) (fun _ _=>rfl))) (N7 (Lj K) (B4 (Oz rfl)) (k8 E9 (k8 X8 (i6 8) j0) j0) (fun _ _=>rfl))))))))
  (e7 (q0 (Ca K B6 N0 M8 y8 (i6 3) (c4 (P8 (c4 (N7 (Lj K) (i6 1) (i6 5) (fun _ _=>rfl)) (c4 (i6 6) c8))) c8)))))) o7)))
  (e7 (l6 (i6 3)))))),?_⟩
 and_intros
 simpa only[↓By,W0]
 refine⟨by decide,fun fo DH=>⟨ns,k7 hd DH,fun nu ns1 H1 m1 hd1=> ?_⟩⟩
 generalize nu.1=num
 have nfd:fo≠dr:=fun z=>by rw[z,hd] at DH;cases DH
 have mH1:Mv [dr] H H1:=(Mv.of (d0 DH _)).trans m1
 have hf1:H1 fo=some (.lst []):=m1.at_ c5 nfd
 have LX:(ys.map V.str).length=4:=by rw[i5,hy4]
 refine⟨_, .inl (o6.of (mH1.at_ Qt nnd)),by rw[LX];decide,by rw[LX];decide,?_⟩
 rw[LX]
 refine O8 (lo:=0) (QcW dr nm fo mo num ys H) ⟨[],[],ns1,_,_,_,_,_,rfl,mH1,hd1,hf1,i3.nil,⟨by simp,fun y hy=>(by cases hy)⟩,l9 _⟩ ?_ ?_
 ·rintro i σ L hi ⟨d,xs,ns2,v5,v6,v7,v8,v9,rfl,mL,hdL,hfL,hD,hG,hdl⟩
  have hi4:i<4:=by omega
  simpa only[↓By,W0]
  refine⟨⟨by omega,by omega⟩,by decide,O3 (fun c=> ?_) (fun c=> ?_)⟩
  ·refine⟨ns2,hdL,fun nu2 ns3 L3 m3 hd3=> ?_⟩
   generalize nu2.1=num2
   refine⟨by omega,?_⟩
   have z0:=V3 num2 (show mo+1≠0 by omega)
   have z1:=V2 num2 (show 0<mo+1 by omega)
   refine⟨by omega,by omega,O8 (lo:=0) (QcV dr nm fo mo num (0+(i:Int)) L3) ⟨"",ns3,_,_,_,rfl,Mv.refl,hd3,l9 _,⟨fun c hc=>(by cases hc),fun c hc=>(by cases hc)⟩⟩ ?_ ?_⟩
   ·rintro j σ M hj ⟨z,ns4,v7,v8,v9,rfl,mM,hdM,hzl,hzg⟩
    have hj6:j<7:=by
     have:j<(num2 % (mo+1)).toNat:=hj
     omega
    simpa only[↓By,W0]
    refine⟨ns4,hdM,fun on ns5 M5 m5 hd5=>⟨by decide,fun p hp=> ?_⟩⟩
    generalize on.1=one
    have e8:[V.str "ab",V.str "Ab",V.str "b",V.str "ba1",V.str "a1",V.str "0",V.str "zz",V.str "B"]=wl8.map V.str:=rfl
    have e6:[V.str " ",V.str ", ",V.str "-",V.str "' ",V.str "  ",V.str ""]=wl6.map V.str:=rfl
    rw[e8,e6]
    obtain⟨s1,hs1,a1⟩:=Tl (l:=wl8) (k:=one % 8) (V3 _ (by decide)) (V2 _ (by decide))
    obtain⟨s2,hs2,a2⟩:=Tl (l:=wl6) (k:=one/8 % 6) (V3 _ (by decide)) (V2 _ (by decide))
    obtain⟨l1,g1⟩:=Zj s1 hs1
    obtain⟨l2,g2⟩:=Zk s2 hs2
    have sp:=d0 hp (.lst (wl8.map V.str))
    refine⟨by decide,_,o6.of c5,_,a1,s1,rfl,T9 (by omega),by decide,fun p2 hp2=>⟨⟨by decide,by decide⟩,by decide,_,o6.of c5,_,a2,s2,rfl,T9 (by rw[Du];omega),?_⟩⟩
    have sp2:=sp.trans (d0 hp2 (.lst (wl6.map V.str)))
    exact⟨z++s1++s2,ns5,_,_,_,rfl,(mM.trans m5).trans (Mv.of sp2),sp2 _ _ hd5,by rw[Du,Du];omega,EG (EG hzg g1) g2⟩
   ·rintro σ M ⟨z,ns4,v7,v8,v9,rfl,mM,hdM,hzl,hzg⟩
    have hzl':z.length<=40:=by
     have:z.length<=6*(num2 % (mo+1)).toNat:=hzl
     omega
    simpa only[l8]
    have mM':=(mL.trans m3).trans mM
    have hyi:ys[i]? =some ys[i]:=u9 (by omega)
    have Lp:DI (ys.map V.str) (0+(i:Int))=some (.str ys[i]):=by
     rw[show (0:Int)+(i:Int)=((i:Nat):Int) by omega]
     exact V9 (by rw[u8,hyi];rfl)
    have hfM:=(m3.trans mM).at_ hfL nfd
    have De:xs.length=d.length:=by have:=hD.length;rwa [i5] at this
    generalize ys[i]=nmi at hyi Lp
    refine⟨.inl ⟨rfl,_,o6.of hfM⟩,_,o6.of (mM'.at_ Qt nnd),_,Lp,by decide,fun p hp=>⟨_,k7 hfM hp,P6 (by omega),?_⟩⟩
    have npf:p≠fo:=fun z=>by rw[z,hfM] at hp;cases hp
    refine⟨d++[(nmi,z)],xs++[.ref p],ns4,_,_,_,_,_,rfl,((mM'.new (mM'.free hdM hp)).new DH),by rw[i4 nfd.symm];exact k7 hdM hp,c5,?_,⟨?_,fun y hy=> ?_⟩,by rw[l0,Aa];omega⟩
    ·rw[n4]
     refine(i3.same (nwo hd ((((m3.trans mM).sub (by simp)).trans (Mv.of (d0 hp _))).upd (by simp))) _ _ hD).app (i3.one (Gw (AA (C6 (by rw[i4 npf];exact c5) (mM'.free hdM hp)) (by simp [npf]))))
    ·rw[n4,q9,hyi]
     exact hG.1.append (List.Sublist.refl _)
    ·rcases U3.mp hy with hy|hy
     ·exact hG.2 y hy
     ·rw[D4.mp hy]
      exact⟨hzl',hzg⟩
  ·exact⟨d,xs,ns2,_,_,_,_,_,rfl,mL,hdL,hfL,hD,⟨hG.1.trans (List.take_sublist_take_left (LJ _)),hG.2⟩,by omega⟩
 ·rintro σ L ⟨d,xs,ns2,v5,v6,v7,v8,v9,rfl,mL,hdL,hfL,hD,hG,hdl⟩
  simpa only[l8]
  refine q fo d xs ns2 L mL hdL DH hfL (i3.same Bq _ _ hD) ?_
  rw[Y0 (by rw[hy4];decide)] at hG
  exact hG
def LR(nm:List Str)(B:Nat)(m:Mk):Prop:=m.1<16384/\m.2.length<=4/\∀y∈m.2,y.1∈nm/\y.1.length<=12/\y.2.length+1<=B/\O5 y.2
theorem Pz(z:Str):(A7 z).length<=z.length+1:=by
 unfold A7 DL
 rw[i5]
 have:=scan_len z.cps.toList (z.cps.toList.length+1)
 rw[P7] at this
 rw[P7]
 exact this
theorem TF{nm:List Str}{B:Nat}{ms:List Mk}(hn:nm.length<=4)(hB:B<=901)(hl:ms.length<=200)(hp:B*ms.length<=3000)(hm:mw (-1) ms)(h:∀m∈ms,LR nm B m):Ok ms:=by
 refine⟨⟨hl,fun m hm=>⟨(h m hm).2.1,fun y hy=> ?_⟩⟩,hm,fun m hm=>(h m hm).1,fun f=> ?_,nm,hn,fun m hm y hy=> ?_⟩
 ·obtain⟨_,h1,h2,h3⟩:=(h m hm).2.2 y hy
  exact⟨by omega,by omega,h3.1⟩
 ·refine Ad ?_ hp
  have:∀l:List Mk,(∀m∈l,LR nm B m)->IF l f<=B*l.length:=by
   intro l
   induction l with
   |nil=>intro _;exact x5 _
   |cons x l ih=>
    intro hx
    have h1:=ih fun y hy=>hx y (D5 _ hy)
    have h2:(Dj x f).length<=B:=by
     unfold Dj
     cases e:get x.2 f with
     |none=>show (A7 "").length<=B;rw[Aq];exact x5 _
     |some t=>
      have:=Pz t
      have:=((hx x C0).2.2 _ (G8 e)).2.2.1
      simp only[DD]
      simp only at this
      omega
    unfold IF at h1⊢
    rw[List.map_cons,K9,List.length_cons,Nat.mul_succ]
    omega
  exact this ms h
 ·obtain⟨h0,_,_,h3⟩:=(h m hm).2.2 y hy
  exact⟨h0,h3.2⟩
theorem YN:∀{d:List BN} {p:Str} {j:Nat},(∀y∈d,p.cps.toList<y.1.cps.toList)->(d.map (·.1)).Pairwise (fun a b=>a.cps.toList<b.cps.toList)->(∀y∈d,Az y.1=true)->dw p j d=none
 |[],p,j,_,_,_=>rfl
 |x::r,p,j,h1,h2,h3=>by
  rw[List.map_cons,DB] at h2
  rw[dw,if_neg,YN (fun y hy=>h2.1 _ (y9.mpr ⟨y,hy,rfl⟩)) h2.2 fun y hy=>h3 y (D5 _ hy)]
  unfold Fi
  rw[h3 x C0,R8 (h1 x C0)]
  decide
theorem QaW{z:Str}(h:Az z=true):("":Str).cps.toList<z.cps.toList:=by
 unfold Az at h
 rw[Q0] at h
 have:=(A2 h.1).1
 rw[<-P7] at this
 cases hc:z.cps.toList with
 |nil=>rw[hc] at this;cases this
 |cons u r=>exact Nk _ _
theorem Qc1{ys:List Str}{d:List BN}(hy:IA ys)(h:Pw ys d):dw "" 0 d=none:=by
 have hm:∀y∈d,Az y.1=true:=fun y hd=>hy.2.2 _ (h.1.subset (y9.mpr ⟨y,hd,rfl⟩))
 exact YN (fun y hd=>QaW (hm y hd)) (hy.2.1.sublist h.1) hm
theorem Qc0{ys:List Str}{d:List BN}{k:Int}(hy:IA ys)(h:Pw ys d)(hk:k<16384):LR ys 41 (k,d):=by
 refine⟨hk,?_,fun y hd=> ?_⟩
 ·have:=h.1.length_le
  rw[i5,hy.1] at this
  exact this
 ·have Ep:=h.1.subset (y9.mpr ⟨y,hd,rfl⟩)
  have:=hy.2.2 _ Ep
  unfold Az at this
  rw[Q0] at this
  obtain⟨g1,g2⟩:=h.2 y hd
  exact⟨Ep,(A2 this.1).2,by omega,g2⟩
theorem MM{x:Mk}(hd:dw "" 0 x.2=none):∀(ms:List Mk) (a:Int),mw a ms->(∀m∈ms,m.1<x.1)->a<x.1->mw a (ms++[x])
 |[],a,_,_,h=>⟨h,hd,trivial⟩
 |y::r,a,h,hl,ha=>⟨h.1,h.2.1,MM hd r y.1 h.2.2 (fun m hm=>hl m (D5 _ hm)) (hl y (C0 ..))⟩
theorem Jy{H:Hp}{p a:Addr}{m:Mk}{xs:List V}(hp:H p=some (.tup [.int m.1, .ref a]))(ha:H a=some (.lst xs))(hd:i3 H (m.2.map Wf) xs):n8 H (QD m) (.ref p):=by
 rw[QD,n8]
 refine⟨p,_,rfl,hp,?_⟩
 rw[i3]
 refine⟨_,_,rfl,by rw[n8],?_⟩
 rw[i3]
 refine⟨_,_,rfl,?_,by rw[i3]⟩
 rw[n8]
 exact⟨a,xs,rfl,ha,hd⟩
def Kx:Sp:=fun vs H Q _=>∃(dr nm:Addr) (many mo:Int) (ns:List FC) (ys:List Str),vs=[.ref dr, .ref nm, .int many, .int mo]/\H dr=some (.lst (ns.map dI))/\H nm=some (.lst (ys.map V.str))/\nm≠dr/\IA ys/\0<=many/\many<=5/\0<=mo/\mo<=6/\
 ∀(r:Addr) (ms:List Mk) (xs:List V) (ns':List FC) (H':Hp),Mv [dr] H H'->H' dr=some (.lst (ns'.map dI))->H r=none->H' r=some (.lst xs)->i3 (nw H H') (ms.map QD) xs->Ok ms->Q (.ref r) H'
def ZA{v0:Addr}{v1:Addr}{v2:Int}{v3:Int}{H:Hp}{Q:VK}{E:XK}:=show Kx [.ref v0, .ref v1, .int v2, .int v3] H Q E=_ by
 simpa only[Kx]
 rfl
theorem PZ:FnScope ["_law_draws_here","_law_names_here","_law_many","_law_most","_law_found","_law_make","_law_k","_law_one"] ["_law_draws_here","_law_names_here","_law_many","_law_most"] (i7 ZW):=by ac_rfl
def QcK(dr nm fo:Addr)(many mo:Int)(ys:List Str)(H:Hp)(i:Nat)(σ:St)(L:Hp):Prop:=∃(ms:List Mk) (xs:List V) (ns:List FC) (mk:Int) (v6 v7:Option V),σ=[some (.ref dr),some (.ref nm),some (.int many),some (.int mo),some (.ref fo),some (.int mk),v6,v7]/\Mv [dr] H L/\L dr=some (.lst (ns.map dI))/\L fo=some (.lst xs)/\i3 (DG [fo] (nw H L)) (ms.map QD) xs/\mw (-1) ms/\(∀m∈ms,m.1<=mk)/\ -1<=mk/\mk<=301*(i:Int)/\ms.length=i/\∀m∈ms,LR ys 41 m
theorem QaH{gp gd:Addr}{dp dd:FuncData}(F:Fun K "_law_makes" "_law_makes" ZW f fd)(T:Txt mg)(GP:FnOk P w K mg bs0 x8 1 gp dp ["_law_draws_here"] W0)(bP:Binds K dp ["_law_draws_here"] [])(kP:PySem.W.keepIn K (.ref gp)=true)(mP:mg "_law_pop"=some (.ref gp))
  (GDo:FnOk P w K mg bs0 x8 2 gd dd ["_law_draws_here","_law_names_here","_law_most"] KC)(bDo:Binds K dd ["_law_draws_here","_law_names_here","_law_most"] [])(kDo:PySem.W.keepIn K (.ref gd)=true)(mDo:mg "_law_document"=some (.ref gd)):FnOk P w K mg bs0 x8 3 f fd ["_law_draws_here","_law_names_here","_law_many","_law_most"] Kx:=by
 refine F.ok PZ (fun vs H Q E h=> ?_) (fun H9 A outer s H vs Q E hr h=> ?_)
 ·obtain⟨dr,nm,many,mo,ns,ys,rfl,_⟩:=h
  rfl
 obtain⟨dr,nm,many,mo,ns,ys,rfl,hd,Qt,nnd,hy,k0,k5,mo0,mo6,q⟩:=h
 have hr1:Room 1 _:=hr.mono (by decide)
 refine⟨_,(c6 (i8 (i:=4) PZ.nd rfl (Or.inl rfl) (B4 c8))
  (c6 (i8 (i:=5) PZ.nd rfl (Or.inl rfl) (HU Er j0))
  (c6 (x9 o8 rfl (K4 rfl T.range (c4 (i6 2) c8)) (j5 (i:=6) PZ.nd rfl (Or.inl rfl))
   (c6 (i8 (i:=7) PZ.nd rfl (Or.inl rfl) (i9 GP hr1 rfl mP kP bP .nil j3 (c4 (i6 0) c8)))
  (c6 (i8 (i:=5) PZ.nd rfl (Or.inl rfl) (k8 K6 (k8 K6 (i6 5) j0) (N7 (Lj K) (B4 (c4 j0 (c4 (k8 E9 (k8 X8 (i6 7) j0) j0) (c4 (k8 E9 (k8 X8 (i6 7) j0) j0) c8)))) (k8 E9 (i6 7) j0) (fun _ _=>rfl))))
  (e7 (q0 (Ca K B6 N0 M8 y8 (i6 4) (c4 (P8 (c4 (i6 5) (c4 (i9 GDo hr rfl mDo kDo bDo .nil j3 (c4 (i6 0) (c4 (i6 1) (c4 (i6 3) c8)))) c8))) c8)))))))
  (e7 (l6 (i6 4)))))),?_⟩
 and_intros
 simpa only[l8]
 refine⟨by decide,fun fo DH=>⟨by omega,by omega,?_⟩⟩
 have nfd:fo≠dr:=fun z=>by rw[z,hd] at DH;cases DH
 refine O8 (lo:=0) (QcK dr nm fo many mo ys H) ⟨[],[],ns,-1,_,_,rfl,Mv.of (d0 DH _),k7 hd DH,c5,i3.nil,trivial,(fun m hm=>by cases hm),by omega,by omega,rfl,fun m hm=>(by cases hm)⟩ ?_ ?_
 ·rintro i σ L hi ⟨ms,xs,ns2,mk,v6,v7,rfl,mL,hdL,hfL,hD,LZ,Bc,hm1,hm2,OW,hG⟩
  have hi5:i<5:=by omega
  simpa only[↓By,W0,↓ZD,KC]
  refine⟨ns2,hdL,fun on ns3 L3 m3 hd3=> ?_⟩
  generalize on.1=one
  refine⟨⟨by decide,by decide⟩,by decide,⟨by decide,by decide⟩,by decide,by decide,fun p hp=> ?_⟩
  have sp:=d0 hp (.lst [V.int 0,V.int (one/3 % 9),V.int (one/3 % 300)])
  obtain⟨st,Gj,U9,BX⟩:∃st:Int,DI [V.int 0,V.int (one/3 % 9),V.int (one/3 % 300)] (one % 3)=some (V.int st)/\0<=st/\st<300:=by
   have h0:=V3 one (show (3:Int)≠0 by decide)
   have h1:=V2 one (show (0:Int)<3 by decide)
   have h2:one % 3=0\/one % 3=1\/one % 3=2:=by omega
   rcases h2 with e|e|e
   ·rw[e];exact⟨_,rfl,by decide,by decide⟩
   ·rw[e];exact⟨_,rfl,V3 _ (by decide),Int.lt_trans (V2 _ (by decide)) (by decide)⟩
   ·rw[e];exact⟨_,rfl,V3 _ (by decide),V2 _ (by decide)⟩
  have m4:=m3.trans (Mv.of (S:=[dr]) sp)
  have hd4:=sp _ _ hd3
  have Lp:=o6.of (K:=K) (show (upd L3 p (.lst [V.int 0,V.int (one/3 % 9),V.int (one/3 % 300)])) p=_ from c5)
  refine⟨by decide,_,Lp,_,Gj,st,rfl, .inl ⟨rfl,_,o6.of (m4.at_ hfL nfd)⟩,ns3,hd4,ys,(mL.trans m4).at_ Qt nnd,nnd,hy.1,mo0,mo6,fun a d xd ns5 L5 m5 hd5 ha hav hDd hGd=>⟨by decide,fun tp He=> ?_⟩⟩
  have m45:=m4.trans m5
  have mL5:=mL.trans m45
  have hf5:=m45.at_ hfL nfd
  have De:xs.length=ms.length:=by have:=hD.length;rwa [i5] at this
  have ntf:tp≠fo:=fun z=>by rw[z,hf5] at He;cases He
  have naf:a≠fo:=fun z=>by rw[z,m4.at_ hfL nfd] at ha;cases ha
  have haH:H a=none:=(mL.trans m4).free hd4 ha
  have htH:H tp=none:=mL5.free hd5 He
  refine⟨_,k7 hf5 He,P6 (by omega),ms++[(mk+1+st,d)],xs++[.ref tp],ns5,_,_,_,rfl,(mL5.new htH).new DH,by rw[i4 nfd.symm];exact k7 hd5 He,c5,?_,MM (Qc1 hy hGd) ms (-1) LZ (fun m hm=>by have:=Bc m hm;show m.1<_;omega) (by show-1<_;omega),fun m hm=> ?_,by omega,by omega,by rw[l0,Aa];omega,fun m hm=> ?_⟩
  ·rw[n4]
   have sN:j9 (DG [fo] (nw H L)) (DG [fo] (nw H (upd (upd L5 tp (.tup [.int (mk+1+st), .ref a])) fo (.lst (xs++[.ref tp]))))):=nwo hd (((m45.sub (by simp)).trans (Mv.of (d0 He _))).upd (by simp))
   refine(i3.same sN _ _ hD).app (i3.one (Jy (m:=(mk+1+st,d)) (AA (C6 (by rw[i4 ntf];exact c5) htH) (by simp [ntf])) (AA (C6 (by rw[i4 naf];exact k7 hav He) haH) (by simp [naf])) (i3.same (fun b u e=> ?_) _ _ hDd)))
   obtain⟨e1,e2⟩:=EZ e
   have nbf:b≠fo:=fun z=>by rw[z,m4.at_ hfL nfd] at e2;cases e2
   exact AA (C6 (by rw[i4 nbf];exact k7 e1 He) ((mL.trans m4).free hd4 e2)) (by simp [nbf])
  ·rcases U3.mp hm with hm|hm
   ·have:=Bc m hm;omega
   ·rw[D4.mp hm];exact Int.le_refl _
  ·rcases U3.mp hm with hm|hm
   ·exact hG m hm
   ·rw[D4.mp hm];exact Qc0 hy hGd (by omega)
 ·rintro σ L ⟨ms,xs,ns2,mk,v6,v7,rfl,mL,hdL,hfL,hD,LZ,Bc,hm1,hm2,OW,hG⟩
  simpa only[l8]
  exact q fo ms xs ns2 L mL hdL DH hfL (i3.same Bq _ _ hD) (TF (by rw[hy.1];exact l9 _) (by decide) (by omega) (by omega) LZ hG)
theorem Et{a:List Expr}{k:Nat}{p:Pos}{es:List Expr}{env:Env}:starEach (Expr.Tuple a k p::es) env=(false,eval (Expr.Tuple a k p) env)::starEach es env:=rfl
theorem Mq{a:List Expr}{p:Pos}{es:List Expr}{env:Env}:starEach (Expr.List a p::es) env=(false,eval (Expr.List a p) env)::starEach es env:=rfl
def DR:Sp:=fun vs H Q _=>∃(dr:Addr) (ns:List FC),vs=[.ref dr]/\H dr=some (.lst (ns.map dI))/\
 ∀(r:Addr) (ms:List Mk) (xs:List V) (H':Hp),Mv [dr] H H'->H r=none->H' r=some (.lst xs)->i3 (nw H H') (ms.map QD) xs->Ok ms->Q (.ref r) H'
def Sk{v0:Addr}{H:Hp}{Q:VK}{E:XK}:=show DR [.ref v0] H Q E=_ by
 simpa only[DR]
 rfl
theorem Zm:∀k:Nat,k<160->(Str.ofString (toString (k:Int))).length<=3/\O5 (Str.ofString (toString (k:Int))):=by unfold O5 Px;decide+kernel
theorem OO{sep:Str}{B:Nat}(hs:O5 sep):∀l:List Str,(∀z∈l,z.length<=B/\O5 z)->(Str.join sep l).length<=l.length*(B+sep.length)/\O5 (Str.join sep l)
 |[],_=>⟨x5 _,fun c hc=>(by cases hc),fun c hc=>(by cases hc)⟩
 |[x],h=>by
  obtain⟨h1,h2⟩:=h x (D4.mpr rfl)
  refine⟨?_,h2⟩
  show x.length<=1*(B+sep.length)
  omega
 |x::y::r,h=>by
  obtain⟨i1,i2⟩:=OO hs (y::r) fun z hz=>h z (D5 _ hz)
  obtain⟨h1,h2⟩:=h x (C0 ..)
  refine⟨?_,EG (EG h2 hs) i2⟩
  show (x++sep++Str.join sep (y::r)).length<=((y::r).length+1)*(B+sep.length)
  rw[Du,Du,Nat.add_mul]
  omega
theorem Qn{x u:Str}(hx:x.length<=700/\O5 x)(hu:u.length<=900/\O5 u):Ok [(7,[("lots",x),("unlike",u)]),(9,[("lots","b")])]:=by
 refine TF (nm:=["lots","unlike"]) (B:=901) (by decide) (l9 _) (show 2<=200 by decide) (show 901*2<=3000 by decide) ⟨by show (-1:Int)<7;decide,?_,by show (7:Int)<9;decide,by decide+kernel,trivial⟩ fun m hm=> ?_
 ·rw[dw,if_neg (show ¬Fi "" "lots"=true by decide+kernel),dw,if_neg (show ¬Fi "lots" "unlike"=true by decide+kernel),dw]
 ·have gb:O5 ("b":Str):=by unfold O5 Px;decide+kernel
  have l1:("lots":Str).length<=12:=by decide+kernel
  have l2:("unlike":Str).length<=12:=by decide+kernel
  have l3:("b":Str).length=1:=by decide+kernel
  rcases E8.mp hm with e|hm
  ·rw[e]
   refine⟨by show (7:Int)<16384;decide,by show 2<=4;decide,fun y hy=> ?_⟩
   rcases E8.mp hy with e|hy
   ·rw[e];exact⟨C0,l1,by have:=hx.1;show x.length+1<=901;omega,hx.2⟩
   ·rw[D4.mp hy];exact⟨by simp,l2,by have:=hu.1;show u.length+1<=901;omega,hu.2⟩
  ·rw[D4.mp hm]
   refine⟨by show (9:Int)<16384;decide,by show 1<=4;decide,fun y hy=> ?_⟩
   rw[D4.mp hy]
   exact⟨C0,l1,by show ("b":Str).length+1<=901;omega,gb⟩
theorem Fo:FnScope ["_law_draws_here","_law_number","_law_many","_law_unlike"] ["_law_draws_here"] (i7 FS):=by ac_rfl
def QcQ(L0:Hp)(i:Nat)(ys:List V)(σ:St)(L:Hp):Prop:=∃(zs:List Str) (v0:Option V),ys=zs.map V.str/\zs.length=i/\(∀z∈zs,z.length<=4/\O5 z)/\L=L0/\σ=[v0]
def QcP(H:Hp)(dr:Addr)(i:Nat)(ys:List V)(σ:St)(L:Hp):Prop:=∃(ms:List Mk) (ns:List FC) (v0:Option V),ms.length=i/\i3 (nw H L) (ms.map QD) ys/\Mv [dr] H L/\L dr=some (.lst (ns.map dI))/\mw (-1) ms/\(∀m∈ms,m.1<2*(i:Int))/\(∀m∈ms,LR ["lots"] 10 m)/\σ=[v0]
theorem TJ{gp:Addr}{dp:FuncData}(F:Fun K "_law_large" "_law_large" FS f fd)(T:Txt mg)(GP:FnOk P w K mg bs0 x8 1 gp dp ["_law_draws_here"] W0)(bP:Binds K dp ["_law_draws_here"] [])(kP:PySem.W.keepIn K (.ref gp)=true)(mP:mg "_law_pop"=some (.ref gp)):FnOk P w K mg bs0 x8 2 f fd ["_law_draws_here"] DR:=by
 refine F.ok Fo (fun vs H Q E h=> ?_) (fun H9 A outer s H vs Q E hr h=> ?_)
 ·obtain⟨dr,ns,rfl,_⟩:=h
  rfl
 obtain⟨dr,ns,rfl,hd,q⟩:=h
 refine⟨_,(@c6 _ _ _ _ _ (i8 (i:=1) Fo.nd rfl (Or.inl rfl) (i9 GP hr rfl mP kP bP .nil j3 (@c4 _ _ _ _ _ (i6 0) c8 FJ)))
  (@c6 _ _ _ _ _ (i8 (i:=2) Fo.nd rfl (Or.inl rfl) (k8 K6 j0 (k8 E9 (k8 X8 (i6 1) j0) j0)))
  (@c6 _ _ _ _ _ (@C4 _ _ _ _ _ _ _ _ (@o4 _ _ _ _ _ _ _ _ Dd (k8 E9 (i6 1) j0) j0 (q5 _)) (@c6 _ _ _ _ _ (i8 (i:=3) Fo.nd rfl (Or.inl rfl) (Ca K EQ Nn Nm (Jl K) A5 (c4 (X7 (N:=["_law_k"]) (pick:=[none]) (NX:=nx6) (sX:=i7 FS) (by decide+kernel) rfl rfl rfl (K4 rfl T.range (@c4 _ _ _ _ _ (i6 2) c8 FJ))
    (fun _ _ _ _=>(j5 (i:=0) Qcv rfl (Or.inl rfl))) (fun _ _ _ _=>R0) (fun _ _ _ _=>(k8 U0 A5 (CT QK rfl T.str (by decide+kernel) (@c4 _ _ _ _ _ (i6 0) c8 FJ))))) c8)))
  (@e7 _ _ _ (@l6 _ _ _ _ (@B4 _ _ _ _ (@c4 _ _ _ _ _ (@P8 _ _ _ _ _ (@c4 _ _ _ _ _ j0 (@c4 _ _ _ _ _ (@B4 _ _ _ _ (@c4 _ _ _ _ _ (@P8 _ _ _ _ _ (@c4 _ _ _ _ _ A5 (@c4 _ _ _ _ _ (k8 U0 (k8 WK A5 (i6 2)) A5) c8 RO) Bv)) (@c4 _ _ _ _ _ (@P8 _ _ _ _ _ (@c4 _ _ _ _ _ A5 (@c4 _ _ _ _ _ (i6 3) c8 FJ) Bv)) c8 Et) Et)) c8 Mq) Bv)) (@c4 _ _ _ _ _ (@P8 _ _ _ _ _ (@c4 _ _ _ _ _ j0 (@c4 _ _ _ _ _ (@B4 _ _ _ _ (@c4 _ _ _ _ _ (@P8 _ _ _ _ _ (@c4 _ _ _ _ _ A5 (@c4 _ _ _ _ _ A5 c8 Bv) Bv)) c8 Et)) c8 Mq) Bv)) c8 Et) Et))))) o7)
  (@c6 _ _ _ _ _ (@C4 _ _ _ _ _ _ _ _ (@o4 _ _ _ _ _ _ _ _ Dd (k8 E9 (i6 1) j0) j0 (q5 _)) (@e7 _ _ _ (@l6 _ _ _ _ (X7 (N:=["_law_k"]) (pick:=[none]) (NX:=nx6) (sX:=i7 FS) (by decide+kernel) rfl rfl rfl (K4 rfl T.range (@c4 _ _ _ _ _ (i6 2) c8 FJ))
    (fun _ _ _ _=>(j5 (i:=0) Qcv rfl (Or.inl rfl))) (fun _ _ _ _=>R0) (fun _ _ _ _=>(@P8 _ _ _ _ _ (@c4 _ _ _ _ _ (k8 AZ j0 (i6 0)) (@c4 _ _ _ _ _ (@B4 _ _ _ _ (@c4 _ _ _ _ _ (@P8 _ _ _ _ _ (@c4 _ _ _ _ _ A5 (@c4 _ _ _ _ _ (N7 (Lj K) (@B4 _ _ _ _ (@c4 _ _ _ _ _ A5 (@c4 _ _ _ _ _ A5 c8 Bv) Bv)) (k8 E9 (i6 0) j0) (fun _ _=>rfl)) c8 Zt) Bv)) c8 Et)) c8 Mq) RO)))))) o7)
  (@e7 _ _ _ (@l6 _ _ _ _ (@B4 _ _ _ _ c8))))))),?_⟩
 and_intros
 simpa only[↓By,W0,↓Ta]
 refine⟨ns,hd,fun nu ns1 H1 m1 hd1=> ?_⟩
 generalize nu.1=num
 have k0:=V3 (num/8) (show (40:Int)≠0 by decide)
 have k1:=V2 (num/8) (show (0:Int)<40 by decide)
 have fr:∀{b},H1 b=none->H b=none:=fun h=>m1.free hd1 h
 refine⟨⟨by decide,by decide⟩,by decide,by decide,O3 (fun _=> ?_) (fun _=> ?_)⟩
 ·refine⟨rfl,by omega,by omega,AU (lo:=0) (QcQ H1) ⟨[],none,rfl,rfl,(fun z hz=>by cases hz),rfl,rfl⟩ ?_ ?_ ?_⟩
  ·rintro i ys σ L hi ⟨zs,v0,rfl,hl,hz,rfl,rfl⟩
   rw[i5,T6]
   omega
  ·rintro i ys σ L hi ⟨zs,v0,rfl,hl,hz,rfl,rfl⟩
   simpa only[l8]
   have e0:(0:Int)+(i:Int)=((i:Nat):Int):=by omega
   rw[e0]
   obtain⟨t1,t2⟩:=Zm i (by omega)
   have la:("a":Str).length=1:=by decide+kernel
   refine⟨?_,T9 (by omega),zs++[_],_,by rw[n4];rfl,by rw[l0,hl];rfl,fun z hz'=> ?_,rfl,rfl⟩
   ·have:(i:Int).natAbs.log2<=(i:Int).natAbs:=Nat.log2_le_self _
    omega
   ·rcases U3.mp hz' with h|h
    ·exact hz z h
    ·rw[D4.mp h]
     exact⟨by rw[Du];omega,EG (by unfold O5 Px;decide+kernel) t2⟩
  ·rintro ys σ L ⟨zs,v0,rfl,hl,hz,rfl,rfl⟩ pl Hf
   refine⟨pl,rfl,zs,o6.of c5,4,fun y hy=>(hz y hy).1,by omega,by decide+kernel,by omega,by omega,by decide+kernel,by decide+kernel,fun r hr3=> ?_⟩
   have gr:r.length<=690/\O5 r:=by
    have e1:r.length=(120+num/8 % 40).toNat*3:=by
     rw[<-P7,hr3,List.length_flatten,List.map_replicate,List.sum_replicate_nat]
     have:("ab ":Str).cps.toList.length=3:=by decide+kernel
     rw[this]
    have e2:∀c∈r.cps.toList,c∈("ab ":Str).cps.toList:=fun c hc=>by
     rw[hr3] at hc
     obtain⟨l,h1,h2⟩:=List.mem_flatten.mp hc
     rw[(List.mem_replicate.mp h1).2] at h2
     exact h2
    have e3:∀c∈("ab ":Str).cps.toList,c<128/\c≠100/\c≠68:=by decide+kernel
    exact⟨by omega,fun c hc=>(e3 c (e2 c hc)).1,fun c hc=>(e3 c (e2 c hc)).2⟩
   have gu:(Txt.join " " zs).length<=900/\O5 (Txt.join " " zs):=by
    rw[show Txt.join " " zs=Str.join " " zs from StrLaws.glued_eq_join _ _]
    have:=OO (sep:=" ") (B:=4) (by unfold O5 Px;decide+kernel) zs hz
    have l1:(" ":Str).length=1:=by decide+kernel
    rw[l1,hl] at this
    exact⟨by omega,this.2⟩
   have lb:("b":Str).length=1:=by decide+kernel
   have gx:(r++("b":Str)).length<=700/\O5 (r++("b":Str)):=⟨by rw[Du];omega,EG gr.2 (by unfold O5 Px;decide+kernel)⟩
   have hok:=Qn gx gu
   have s0:=d0 Hf (.lst (zs.map V.str))
   have hd2:=s0 _ _ hd1
   have m2:=m1.trans (Mv.of s0)
   have fr2:∀{b},(upd L pl (.lst (zs.map V.str))) b=none->H b=none:=fun h=>m2.free hd2 h
   have szx:r.length+("b":Str).length<=sizeLine:=T9 (by omega)
   generalize r++("b":Str)=x at gx hok⊢
   generalize Txt.join " " zs=u at gu hok⊢
   generalize upd L pl (.lst (zs.map V.str))=G0 at hd2 m2 fr2⊢
   refine⟨szx,by decide,fun p1 h1=>⟨by decide,fun p2 h2=>⟨by decide,fun p3 h3=>⟨by decide,fun p4 h4=>⟨by decide,fun p5 h5=>⟨by decide,fun p6 h6=>⟨by decide,fun p7 h7=>⟨by decide,fun p8 h8=> ?_⟩⟩⟩⟩⟩⟩⟩⟩
   have t1:=d0 h1 (.tup [.str "lots", .str x])
   have v1:(upd G0 p1 (.tup [.str "lots", .str x])) p1=_:=c5
   generalize upd G0 p1 (.tup [.str "lots", .str x])=G1 at h2 h3 h4 h5 h6 h7 h8 t1 v1⊢
   have t2:=d0 h2 (.tup [.str "unlike", .str u])
   have v2:(upd G1 p2 (.tup [.str "unlike", .str u])) p2=_:=c5
   generalize upd G1 p2 (.tup [.str "unlike", .str u])=G2 at h3 h4 h5 h6 h7 h8 t2 v2⊢
   have t3:=d0 h3 (.lst [.ref p1, .ref p2])
   have v3:(upd G2 p3 (.lst [.ref p1, .ref p2])) p3=_:=c5
   generalize upd G2 p3 (.lst [.ref p1, .ref p2])=G3 at h4 h5 h6 h7 h8 t3 v3⊢
   have t4:=d0 h4 (.tup [.int 7, .ref p3])
   have v4:(upd G3 p4 (.tup [.int 7, .ref p3])) p4=_:=c5
   generalize upd G3 p4 (.tup [.int 7, .ref p3])=G4 at h5 h6 h7 h8 t4 v4⊢
   have t5:=d0 h5 (.tup [.str "lots", .str "b"])
   have v5:(upd G4 p5 (.tup [.str "lots", .str "b"])) p5=_:=c5
   generalize upd G4 p5 (.tup [.str "lots", .str "b"])=G5 at h6 h7 h8 t5 v5⊢
   have t6:=d0 h6 (.lst [.ref p5])
   have v6:(upd G5 p6 (.lst [.ref p5])) p6=_:=c5
   generalize upd G5 p6 (.lst [.ref p5])=G6 at h7 h8 t6 v6⊢
   have t7:=d0 h7 (.tup [.int 9, .ref p6])
   have v7:(upd G6 p7 (.tup [.int 9, .ref p6])) p7=_:=c5
   generalize upd G6 p7 (.tup [.int 9, .ref p6])=G7 at h8 t7 v7⊢
   have t8:=d0 h8 (.lst [.ref p4, .ref p7])
   have u7:=t8
   have u6:=t7.trans u7
   have u5:=t6.trans u6
   have u4:=t5.trans u5
   have u3:=t4.trans u4
   have u2:=t3.trans u3
   have u1:=t2.trans u2
   have f1:=fr2 h1
   have f2:=fr2 (t1.free h2)
   have f3:=fr2 ((t1.trans t2).free h3)
   have f4:=fr2 (((t1.trans t2).trans t3).free h4)
   have f5:=fr2 ((((t1.trans t2).trans t3).trans t4).free h5)
   have f6:=fr2 (((((t1.trans t2).trans t3).trans t4).trans t5).free h6)
   have f7:=fr2 ((((((t1.trans t2).trans t3).trans t4).trans t5).trans t6).free h7)
   have f8:=fr2 (((((((t1.trans t2).trans t3).trans t4).trans t5).trans t6).trans t7).free h8)
   refine q p8 _ [.ref p4, .ref p7] _ (m2.trans (Mv.of (t1.trans u1))) f8 c5 ?_ hok
   have w1:=i3.one (Gw (x:=(("lots":Str),x)) (C6 (u1 _ _ v1) f1))
   have w2:=i3.one (Gw (x:=(("unlike":Str),u)) (C6 (u2 _ _ v2) f2))
   have w5:=i3.one (Gw (x:=(("lots":Str),("b":Str))) (C6 (u5 _ _ v5) f5))
   exact(i3.one (Jy (m:=(7,[("lots",x),("unlike",u)])) (C6 (u4 _ _ v4) f4) (C6 (u3 _ _ v3) f3) (w1.app w2))).app (i3.one (Jy (m:=(9,[("lots","b")])) (C6 (u7 _ _ v7) f7) (C6 (u6 _ _ v6) f6) w5))
 ·refine⟨by decide,O3 (fun _=> ?_) (fun _=> ?_)⟩
  ·refine⟨by omega,by omega,AU (lo:=0) (QcP H dr) ⟨[],ns1,none,rfl,i3.nil,m1,hd1,trivial,(fun m hm=>by cases hm),(fun m hm=>by cases hm),rfl⟩ ?_ ?_ ?_⟩
   ·rintro i ys σ L hi ⟨ms,ns2,v0,hl,hD,mL,hdL,LZ,T8,hG,rfl⟩
    have:=hD.length
    rw[i5] at this
    rw[this,T6]
    omega
   ·rintro i ys σ L hi ⟨ms,ns2,v0,hl,hD,mL,hdL,LZ,T8,hG,rfl⟩
    simpa only[l8]
    refine⟨.inl ⟨by decide,by decide⟩,by decide,fun p0 h0=> ?_⟩
    have i0:=V3 (0+(i:Int)) (show (2:Int)≠0 by decide)
    have i1:=V2 (0+(i:Int)) (show (0:Int)<2 by decide)
    obtain⟨z,hz,az⟩:=Tl (l:=["b","b a1"]) (k:=(0+(i:Int)) % 2) i0 i1
    have gz:z.length+1<=10/\O5 z:=by
     have:∀z∈(["b","b a1"]:List Str),z.length+1<=10/\O5 z:=by unfold O5 Px;decide+kernel
     exact this z hz
    have s0:=d0 h0 (.lst [V.str "b",V.str "b a1"])
    refine⟨by decide,_,o6.of c5,_,az,by decide,fun p1 h1=>⟨by decide,fun p2 h2=>⟨by decide,fun p3 h3=> ?_⟩⟩⟩
    have s1:=d0 h1 (.tup [.str "lots", .str z])
    have s2:=d0 h2 (.lst [.ref p1])
    have s3:=d0 h3 (.tup [.int (2*(0+(i:Int))), .ref p2])
    have s03:=((s0.trans s1).trans s2).trans s3
    have fL:∀{b},L b=none->H b=none:=fun h=>mL.free hdL h
    have f1:=fL (s0.free h1)
    have f2:=fL ((s0.trans s1).free h2)
    have f3:=fL (((s0.trans s1).trans s2).free h3)
    have l1:("lots":Str).length<=12:=by decide+kernel
    refine⟨ms++[((2*(0+(i:Int)),[(("lots":Str),z)]):Mk)],ns2,_,by rw[l0,hl];rfl,?_,mL.trans (Mv.of s03),s03 _ _ hdL,MM ?_ ms (-1) LZ (fun m hm=>by have:=T8 m hm;show m.1<_;omega) (by show (-1:Int)<_;omega),fun m hm=> ?_,fun m hm=> ?_,rfl⟩
    ·rw[n4]
     exact(i3.same (CU s03) _ _ hD).app (i3.one (Jy (m:=(2*(0+(i:Int)),[(("lots":Str),z)])) (C6 c5 f3) (C6 (s3 _ _ c5) f2) (i3.one (Gw (x:=(("lots":Str),z)) (C6 ((s2.trans s3) _ _ c5) f1)))))
    ·show dw "" 0 [("lots",z)]=none
     rw[dw,if_neg (show ¬Fi "" "lots"=true by decide+kernel),dw]
    ·rcases U3.mp hm with hm|hm
     ·have:=T8 m hm;omega
     ·rw[D4.mp hm];show 2*(0+(i:Int))<_;omega
    ·rcases U3.mp hm with hm|hm
     ·exact hG m hm
     ·rw[D4.mp hm]
      refine⟨by show 2*(0+(i:Int))<16384;omega,by show 1<=4;decide,fun y hy=> ?_⟩
      rw[D4.mp hy]
      exact⟨C0,l1,gz⟩
   ·rintro ys σ L ⟨ms,ns2,v0,hl,hD,mL,hdL,LZ,T8,hG,rfl⟩ r hr0
    have s1:=d0 hr0 (.lst ys)
    exact q r ms ys _ (mL.trans (Mv.of s1)) (mL.free hdL hr0) c5 (i3.same (CU s1) _ _ hD) (TF (nm:=["lots"]) (B:=10) (by decide) (by decide) (by omega) (by omega) LZ hG)
  ·refine⟨by decide,fun p hp=>q p [] [] _ (m1.trans (Mv.of (d0 hp _))) (fr hp) c5 i3.nil Ok.nil⟩
section
variable {R:Hp->HO->Rw->Prop} {G M:Hp} {b:Addr} {da:Str->Addr} {ra:Str->Str->Addr} {pa:Db} {F:Fl}
theorem TAt.setF{f:Str}{p:Addr}{M9:Hp}{Q:VK}(m:RM R)(t:TAt R G M b da ra pa F)(hp:M p=none)(h9:upd M p (.dK [])=M9)(k:∀da' AJ M',TAt R G M' b da' ra AJ (KT.mod F f fun o=>o.getD [])->Fr G pa M AJ M'->Q (.ref (da' f)) M'):
  (∀v,C7 (P9 da F) (.inr f)=some v->Q v M9)/\(C7 (P9 da F) (.inr f)=none->Q (.ref p) (upd M9 b (.dK (Q3 (P9 da F) (.inr f) (.ref p))))):=by
 subst h9
 have sp:=d0 hp (.dK [])
 refine⟨fun v hv=> ?_,fun hv=> ?_⟩
 ·rw[E4] at hv
  obtain⟨D,e,rfl⟩:=D3.mp hv
  have em:KT.mod F f (fun o=>o.getD [])=F:=(K5 (by rw[e];rfl)).trans (Jm e)
  exact k da pa _ (by rw[em];exact t.same m sp) (Fr.same sp fun a ha=>(t.own a ha).2)
 ·have e:get F f=none:=by rw[E4] at hv;exact JN.mp hv
  have nb:b≠p:=k9 t.top.1 hp
  have:=k (V8 da f p) (V8 pa p (some [f])) (upd (upd M p (.dK [])) b (.dK (Q3 (P9 da F) (.inr f) (.ref p)))) (by rw[X4 _ hv,P4 e];exact t.addF m e hp) ((Fr.new hp fun a ha=>(t.own a ha).2).trans (Fr.own (q:=[]) (by rw[D0 nb];exact t.top.2) (by decide)))
  rw[G9] at this
  exact this
theorem TAt.setW{f w:Str}{D:Wt Str}{p:Addr}{o0:HO}{M9:Hp}{Q:VK}(m:RM R)(t:TAt R G M b da ra pa F)(hf:get F f=some D)(hp:M p=none)(h9:upd M p o0=M9)(h0:∀h,R h o0 [])(k:∀Ff AJ M',TAt R G M' b da Ff AJ (KT.mod F f fun _=>KT.mod D w fun o=>o.getD [])->Fr G pa M AJ M'->Q (.ref (Ff f w)) M'):
  (∀v,C7 (P9 (ra f) D) (.inr w)=some v->Q v M9)/\(C7 (P9 (ra f) D) (.inr w)=none->Q (.ref p) (upd M9 (da f) (.dK (Q3 (P9 (ra f) D) (.inr w) (.ref p))))):=by
 subst h9
 have sp:=d0 hp o0
 obtain⟨hd,h3⟩:=t.fld f D hf
 refine⟨fun v hv=> ?_,fun hv=> ?_⟩
 ·rw[E4] at hv
  obtain⟨r,e,rfl⟩:=D3.mp hv
  have em:KT.mod D w (fun o=>o.getD [])=D:=(K5 (by rw[e];rfl)).trans (Jm e)
  exact k ra pa _ (by rw[em,Jm hf];exact t.same m sp) (Fr.same sp fun a ha=>(t.own a ha).2)
 ·have e:get D w=none:=by rw[E4] at hv;exact JN.mp hv
  have nb:da f≠p:=k9 hd hp
  have:=k (V8 ra f (V8 (ra f) w p)) (V8 pa p (some [f,w])) (upd (upd M p o0) (da f) (.dK (Q3 (P9 (ra f) D) (.inr w) (.ref p)))) (by rw[X4 _ hv,P4 e];exact t.addW m hf e hp (h0 _)) ((Fr.new hp fun a ha=>(t.own a ha).2).trans (Fr.own (q:=[f]) (by rw[D0 nb];exact h3) (by show 1<3;decide)))
  rw[G9,G9] at this
  exact this
theorem TAt.far{p:Addr}{q:List Str}{o:HO}(m:RM R)(t:TAt R G M b da ra pa F)(hp:M p=none):TAt R G (upd M p o) b da ra (V8 pa p (some q)) F:=by
 have sp:=d0 hp o
 have ne:∀{a q'},pa a=some q'->V8 pa p (some q) a=some q':=fun{a q'} h=>by rw[D0 (t.old (by rw[h];intro z;cases z) hp)];exact h
 refine⟨t.base.trans sp,fun a ha=> ?_,⟨sp _ _ t.top.1,ne t.top.2⟩,fun f D h=>⟨sp _ _ (t.fld f D h).1,ne (t.fld f D h).2⟩,fun f D w r h h'=> ?_⟩
 ·by_cases c:a=p
  ·rw[c];exact⟨t.base.free hp,by rw[c5];intro z;cases z⟩
  ·rw[D0 c] at ha
   exact⟨(t.own a ha).1,by rw[i4 c];exact(t.own a ha).2⟩
 ·obtain⟨⟨o',h1,h2⟩,h3⟩:=t.row f D w r h h'
  exact⟨⟨o',sp _ _ h1,m _ _ _ _ (CY hp) h2⟩,ne h3⟩
end
def NH(h:Hp):List V->Rw->Prop
 |[],[]=>True
 |x::xs,q::r=>(∃t b:Addr,x= .ref t/\h t=some (.tup [.int q.1, .ref b])/\q.2=[(b:Int)])/\NH h xs r
 |_,_=>False
def Re(h:Hp)(o:HO)(r:Rw):Prop:=∃xs,o= .lst xs/\NH h xs r
theorem NH.same{h h':Hp}(s:j9 h h'):∀{xs:List V} {r:Rw},NH h xs r->NH h' xs r
 |[],[],_=>trivial
 |x::xs,q::r,⟨⟨t,b,e1,e2,e3⟩,k⟩=>⟨⟨t,b,e1,s _ _ e2,e3⟩,k.same s⟩
 |[],_::_,h=>h.elim
 |_::_,[],h=>h.elim
theorem QT:RM Re:=fun h h' o r s ⟨xs,e,d⟩=>⟨xs,e,d.same s⟩
theorem NH.len{h:Hp}:∀{xs:List V} {r:Rw},NH h xs r->xs.length=r.length
 |[],[],_=>rfl
 |x::xs,q::r,⟨_,k⟩=>by rw[List.length_cons,List.length_cons,k.len]
 |[],_::_,h=>h.elim
 |_::_,[],h=>h.elim
theorem NH.at_{h:Hp}:∀{xs:List V} {r:Rw} {i:Nat} {q:Int×List Int},NH h xs r->r[i]? =some q->∃t b:Addr,xs[i]? =some (.ref t)/\h t=some (.tup [.int q.1, .ref b])/\q.2=[(b:Int)]
 |x::xs,q::r,0,q',⟨⟨t,b,e1,e2,e3⟩,k⟩,e=>by simp at e;subst e;exact⟨t,b,by rw[e1];rfl,e2,e3⟩
 |x::xs,q::r,i+1,q',⟨_,k⟩,e=>by
  obtain⟨t,b,h1,h2⟩:=NH.at_ (i:=i) k (by simpa using e)
  exact⟨t,b,by simpa using h1,h2⟩
 |[],[],i,q,_,e=>by simp at e
 |[],_::_,_,_,h,_=>h.elim
 |_::_,[],_,_,h,_=>h.elim
theorem NH.snoc{h:Hp}{t b:Addr}{m:Int}(ht:h t=some (.tup [.int m, .ref b])):∀{xs:List V} {r:Rw},NH h xs r->NH h (xs++[.ref t]) (r++[(m,[(b:Int)])])
 |[],[],_=>⟨⟨t,b,rfl,ht,rfl⟩,trivial⟩
 |x::xs,q::r,⟨a,k⟩=>⟨a,k.snoc ht⟩
 |[],_::_,h=>h.elim
 |_::_,[],h=>h.elim
def Ov(f w:Str)(m:Int):List Str:=f::w::List.replicate (m.toNat+1) ""
theorem Fp(f w:Str)(m:Int):2<(Ov f w m).length:=by
 unfold Ov
 rw[List.length_cons,List.length_cons,Pm]
 omega
theorem WE{f f' w w':Str}{m m':Int}(h:0<=m)(h':0<=m')(e:Ov f w m=Ov f' w' m'):f=f'/\w=w'/\m=m':=by
 unfold Ov at e
 obtain⟨e1,e2⟩:=Dx e
 obtain⟨e3,e4⟩:=Dx e2
 have:=congrArg List.length e4
 rw[Pm,Pm] at this
 exact⟨e1,e3,by omega⟩
def RA(L:Hp)(pa:Db)(f w:Str)(s r:Rw):Prop:=s.length=r.length/\∀(i:Nat) (a q:Int×List Int),s[i]? =some a->r[i]? =some q->a.1=q.1/\0<=q.1/\∃b:Addr,a.2=[(b:Int)]/\L b=some (.lst (q.2.map V.int))/\pa b=some (Ov f w q.1)
structure Al(S F:Fl)(L:Hp)(pa:Db):Prop where
 kf:S.map (·.1)=F.map (·.1)
 kw:∀f,(E1 S f).map (·.1)=(E1 F f).map (·.1)
 row:∀f w,RA L pa f w (A4 S f w) (A4 F f w)
theorem RA.fr{G L L':Hp}{pa AJ:Db}{f w:Str}{s r:Rw}(h:RA L pa f w s r)(fr:Fr G pa L AJ L'):RA L' AJ f w s r:=⟨h.1,fun i a q e1 e2=>by
 obtain⟨h1,h2,b,h3,h4,h5⟩:=h.2 i a q e1 e2
 obtain⟨g1,g2⟩:=fr.far b _ h5 (Fp _ _ _)
 exact⟨h1,h2,b,h3,g1.trans h4,g2⟩⟩
theorem HZ{κ α:Type}[DecidableEq κ]{S F:List (κ×α)}{k:κ}{g h:Option α->α}(e:S.map (·.1)=F.map (·.1)):(KT.mod S k g).map (·.1)=(KT.mod F k h).map (·.1):=by rw[Z6,Z6,e]
theorem KM{F:Fl}{f f' w':Str}{D:Wt Str}:A4 (KT.mod F f fun _=>D) f' w'=if f'=f then E1 D w' else A4 F f' w':=by
 unfold A4
 rw[Z5 F f f' (fun _=>D) _ (fun _=>rfl)]
 split<;>rfl
theorem Al.put{S F:Fl}{L L':Hp}{pa AJ:Db}{f w:Str}{s r:Rw}(h:Al S F L pa)(hr:RA L' AJ f w s r)(ho:∀f' w',¬(f'=f/\w'=w)->RA L' AJ f' w' (A4 S f' w') (A4 F f' w')):Al (KT.mod S f fun _=>KT.mod (E1 S f) w fun _=>s) (KT.mod F f fun _=>KT.mod (E1 F f) w fun _=>r) L' AJ:=by
 refine⟨HZ h.kf,fun f'=> ?_,fun f' w'=> ?_⟩
 ·rw[Z5 S f f' (fun _=>KT.mod (E1 S f) w fun _=>s) _ (fun _=>rfl),Z5 F f f' (fun _=>KT.mod (E1 F f) w fun _=>r) _ (fun _=>rfl)]
  split
  ·exact HZ (h.kw f)
  ·exact h.kw f'
 ·rw[KM,KM]
  by_cases c:f'=f
  ·rw[if_pos c,if_pos c,Z5 (E1 S f) w w' (fun _=>s) _ (fun _=>rfl),Z5 (E1 F f) w w' (fun _=>r) _ (fun _=>rfl)]
   by_cases d:w'=w
   ·rw[if_pos d,if_pos d,c,d];exact hr
   ·rw[if_neg d,if_neg d]
    have:=ho f' w' fun z=>d z.2
    rw[c] at this⊢
    exact this
  ·rw[if_neg c,if_neg c]
   exact ho f' w' fun z=>c z.1
theorem Al.fat{G L:Hp}{b:Addr}{da:Str->Addr}{ra:Str->Str->Addr}{pa:Db}{S F:Fl}(t:TAt Re G L b da ra pa S)(h:Al S F L pa):Rh (nw G L) b F:=by
 have on:∀{a q},pa a=some q->G a=none:=fun h=>(t.own _ (by rw[h];intro z;cases z)).1
 have kv:∀{α β:Type} {d:Str->Addr} {A:List (Str×α)} {B:List (Str×β)},A.map (·.1)=B.map (·.1)->P9 d A=P9 d B:=fun{α β d A B} e=>by
  have e1:∀{γ:Type} (A:List (Str×γ)),P9 d A=(A.map (·.1)).map fun k=>((.inr k:D7),V.ref (d k)):=fun A=>by unfold P9;rw[K8];rfl
  rw[e1,e1,e]
 have gk:∀{α β:Type} {A:List (Str×α)} {B:List (Str×β)} {k:Str} {v:β},A.map (·.1)=B.map (·.1)->get B k=some v->∃u,get A k=some u:=fun{α β A B k v} e h=>by
  have:=T5.mp (show (get B k).isSome=true by rw[h];rfl)
  rw[<-e] at this
  exact GJ.mp (T5.mpr this)
 refine⟨da,by rw[<-kv h.kf];exact C6 t.top.1 (on t.top.2),fun f D e=> ?_⟩
 obtain⟨D',e'⟩:=gk h.kf e
 have rS:E1 S f=D':=by unfold E1;rw[e'];rfl
 have rF:E1 F f=D:=by unfold E1;rw[e];rfl
 have hk:=h.kw f
 rw[rS,rF] at hk
 obtain⟨hd,hp⟩:=t.fld f D' e'
 refine⟨ra f,by rw[<-kv hk];exact C6 hd (on hp),fun w r ew=> ?_⟩
 obtain⟨s,es⟩:=gk hk ew
 obtain⟨⟨o,h1,xs,rfl,h2⟩,h3⟩:=t.row f D' w s e' es
 have hra:=h.row f w
 have r1:A4 S f w=s:=by unfold A4;rw[rS];unfold E1;rw[es];rfl
 have r2:A4 F f w=r:=by unfold A4;rw[rF];unfold E1;rw[ew];rfl
 rw[r1,r2] at hra
 refine⟨xs,C6 h1 (on h3),?_⟩
 have key:∀(k:Nat) (xs:List V) (s r:Rw),NH (Eg G pa L) xs s->RA L pa f w s r->i3 (nw G L) (r.map Df) xs:=by
  intro k xs
  induction xs with
  |nil=>
   intro s r hR hA
   cases s with
   |nil=>
    have:=hA.1
    rw[Dy this.symm]
    exact i3.nil
   |cons=>exact hR.elim
  |cons x xs ih=>
   intro s r hR hA
   cases s with
   |nil=>exact hR.elim
   |cons a s=>
    cases r with
    |nil=>cases hA.1
    |cons q r=>
     obtain⟨⟨t1,b1,rfl,h5,h6⟩,hR'⟩:=hR
     obtain⟨g1,_,b2,g3,g4,g5⟩:=hA.2 0 a q rfl rfl
     rw[h6] at g3
     have eb:b1=b2:=Int.ofNat.inj (Dx g3).1
     rw[List.map_cons,i3]
     refine⟨_,_,rfl,Nf (m:=q.1) (ps:=q.2) (p:=t1) (l:=b1) ?_ (by rw[eb];exact C6 g4 (on g5)),ih s r hR' ⟨GV hA.1,fun i a q e1 e2=>hA.2 (i+1) a q (by simpa using e1) (by simpa using e2)⟩⟩
     obtain⟨z1,z2,_⟩:=BC h5
     rw[<-g1]
     exact C6 z1 z2
 exact key 0 xs s r h2 hra
def Kq:Sp:=fun vs H Q _=>∃(a:Addr) (ms:List Mk) (xs:List V),vs=[.ref a]/\H a=some (.lst xs)/\i3 H (ms.map QD) xs/\Ok ms/\∀b H',j9 H H'->Rh (nw H H') b (J5 [] ms)->Q (.ref b) H'
def Zu{v0:Addr}{H:Hp}{Q:VK}{E:XK}:=show Kq [.ref v0] H Q E=_ by
 simpa only[Kq]
 rfl
section
variable {R:Hp->HO->Rw->Prop} {G M:Hp} {b:Addr} {da:Str->Addr} {ra:Str->Str->Addr} {pa:Db} {F:Fl}
theorem TAt.setdF{σ:St}{e1 e2:TE}{f:Str}{Q:VK}(m:RM R)(t:TAt R G M b da ra pa F)(h1:∀Q:VK,Q (.ref b) M->e1 σ M Q)(h2:∀(H:Hp) (Q:VK),Q (.str f) H->e2 σ H Q)(hl:F.length<sizeLine)(k:∀da' AJ M',TAt R G M' b da' ra AJ (KT.mod F f fun o=>o.getD [])->Fr G pa M AJ M'->Q (.ref (da' f)) M'):Es e1 e2 Y5 σ M Q:=
 h1 _ ⟨b,rfl, .inl ⟨_, .inl t.top.1⟩,h2 _ _ fun p hp=>⟨_, .inr f,d0 hp _ _ _ t.top.1,rfl,by rw[S8];exact hl,t.setF m hp rfl k⟩⟩
theorem TAt.setdW{σ:St}{e2:TE}{f w:Str}{D:Wt Str}{Q:VK}(m:RM R)(t:TAt R G M b da ra pa F)(hf:get F f=some D)(h2:∀Q:VK,Q (.str w) M->e2 σ M Q)(hl:D.length<sizeLine)(h0:∀h,R h (.lst []) [])(k:∀Ff AJ M',TAt R G M' b da Ff AJ (KT.mod F f fun _=>KT.mod D w fun o=>o.getD [])->Fr G pa M AJ M'->Q (.ref (Ff f w)) M'):
  ∃a,V.ref (da f)= .ref a/\IsD M a/\e2 σ M fun y H2=>RI Kl σ H2 fun z H3=>∃kvs k,H3 a=some (.dK kvs)/\y=kV k/\kvs.length<sizeLine/\(∀v,C7 kvs k=some v->Q v H3)/\(C7 kvs k=none->Q z (upd H3 a (.dK (Q3 kvs k z)))):=
 ⟨_,rfl, .inl ⟨_, .inl (t.fld f D hf).1⟩,h2 _ ⟨x5 _,fun p hp=>⟨_, .inr w,d0 hp _ _ _ (t.fld f D hf).1,rfl,by rw[S8];exact hl,t.setW m hf hp rfl h0 k⟩⟩⟩
end
theorem SX{κ α:Type}[DecidableEq κ]{t:List (κ×List α)}{k:κ}(h:get t k=none):E1 t k=[]:=by unfold E1;rw[h];rfl
theorem SW{κ α:Type}[DecidableEq κ]{t:List (κ×List α)}{k:κ}{v:List α}(h:get t k=some v):E1 t k=v:=by unfold E1;rw[h];rfl
theorem Uk{c:Prop}[Decidable c]{A B:Prop}(hA:A)(hB:A->¬c->B):if c then A else B:=by
 by_cases h:c
 ·rw[if_pos h];exact hA
 ·rw[if_neg h];exact hB hA h
theorem Gc{α:Type}{l:List α}{x:α}(h:l[l.length-1]? =some x):DI l (-1)=some x:=Ph h
theorem DU:FnScope ["_law_makes_here","_law_found","_law_make","_law_document_here","_law_field","_law_text","_law_words_here","_law_at","_law_rows"] ["_law_makes_here"] (i7 ZO):=by ac_rfl
def TI(G:Hp)(b:Addr)(F:Fl)(L:Hp):Prop:=∃(da:Str->Addr) (ra:Str->Str->Addr) (pa:Db) (S:Fl),TAt Re G L b da ra pa S/\Al S F L pa
theorem TI.bs{G L:Hp}{b:Addr}{F:Fl}(h:TI G b F L):j9 G L:=by
 obtain⟨_,_,_,_,t,_⟩:=h
 exact t.base
theorem RA.same{L L':Hp}{pa:Db}{f w:Str}{s r:Rw}(h:RA L pa f w s r)(e:∀b o,L b=some o->L' b=some o):RA L' pa f w s r:=⟨h.1,fun i a q e1 e2=>by
 obtain⟨h1,h2,b,h3,h4,h5⟩:=h.2 i a q e1 e2
 exact⟨h1,h2,b,h3,e _ _ h4,h5⟩⟩
theorem Al.same{S F:Fl}{L L':Hp}{pa:Db}(h:Al S F L pa)(s:j9 L L'):Al S F L' pa:=⟨h.kf,h.kw,fun f w=>(h.row f w).same s⟩
def QcD(G:Hp)(a b:Addr)(ms:List Mk)(i:Nat)(σ:St)(L:Hp):Prop:=∃v2 v3 v4 v5 v6 v7 v8:Option V,σ=[some (.ref a),some (.ref b),v2,v3,v4,v5,v6,v7,v8]/\TI G b (J5 [] (ms.take i)) L/\Sz (4*i*1000) (J5 [] (ms.take i))
def YE(G:Hp)(a b:Addr)(ms:List Mk)(m:Mk)(d:V)(i j:Nat)(σ:St)(L:Hp):Prop:=∃v4 v5 v6 v7 v8:Option V,σ=[some (.ref a),some (.ref b),some (.int m.1),some d,v4,v5,v6,v7,v8]/\TI G b (BZ m.1 (J5 [] (ms.take i)) (m.2.take j)) L/\Sz ((4*i+j)*1000) (BZ m.1 (J5 [] (ms.take i)) (m.2.take j))
def YD(G:Hp)(a b wl:Addr)(m:Mk)(d:V)(y:BN)(F0:Fl)(ws:List Str)(L1:Hp)(pa0:Db)(k:Nat)(σ:St)(L:Hp):Prop:=∃v7 v8:Option V,σ=[some (.ref a),some (.ref b),some (.int m.1),some d,some (.str y.1),some (.str y.2),some (.ref wl),v7,v8]/\
 ∃(da:Str->Addr) (ra:Str->Str->Addr) (pa:Db) (S:Fl),TAt Re G L b da ra pa S/\Al S (Ct m.1 y.1 F0 0 (ws.take k)) L pa/\j9 (Eg G pa0 L1) (Eg G pa L)
theorem Qax{gw:Addr}{dw':FuncData}(F:Fun K "_law_table" "_law_table" ZO f fd)(T:Txt mg)(GLW:FnOk P w K mg bs0 x8 1 gw dw' ["_law_text"] Sl)(bLW:Binds K dw' ["_law_text"] [])(kLW:PySem.W.keepIn K (.ref gw)=true)(mLW:mg "_law_words"=some (.ref gw)):FnOk P w K mg bs0 x8 2 f fd ["_law_makes_here"] Kq:=by
 refine F.ok DU (fun vs H Q E h=> ?_) (fun H9 A outer s H vs Q E hr h=> ?_)
 ·obtain⟨a,ms,xs,rfl,_⟩:=h
  rfl
 obtain⟨a,ms,xs,rfl,ha,hD,ok,q⟩:=h
 obtain⟨⟨hl,Eh⟩,LZ,_⟩:=id ok
 have szl:=T6
 refine⟨_,(c6 (i8 (i:=1) DU.nd rfl (Or.inl rfl) R7)
  (c6 (x9 o8 rfl (r9 K (i6 0)) (LW K (n:=2) rfl (o9 (j5 (i:=2) DU.nd rfl (Or.inl rfl)) (o9 (j5 (i:=3) DU.nd rfl (Or.inl rfl)) P2)))
   (e7 (x9 o8 rfl (r9 K (i6 3)) (LW K (n:=2) rfl (o9 (j5 (i:=4) DU.nd rfl (Or.inl rfl)) (o9 (j5 (i:=5) DU.nd rfl (Or.inl rfl)) P2)))
   (c6 (i8 (i:=6) DU.nd rfl (Or.inl rfl) (i9 GLW hr rfl mLW kLW bLW .nil j3 (c4 (i6 5) c8)))
  (e7 (x9 o8 rfl (K4 rfl T.range (c4 (j6 (Ba K) rfl T.len A9 (c4 (i6 6) c8)) c8)) (j5 (i:=7) DU.nd rfl (Or.inl rfl))
   (c6 (i8 (i:=8) DU.nd rfl (Or.inl rfl) (Cr (Cr (i6 1) (i6 4) R7 ⟨rfl,rfl,rfl,rfl⟩) (N7 (Xl K) (N7 (Lj K) (i6 6) (i6 7) (fun _ _=>rfl)) j0 (fun _ _=>rfl)) (B4 c8) ⟨rfl,rfl,rfl,rfl⟩))
  (c6 (C4 (PW.pt (Bp (o4 (Tx K hr) (i6 8) (B4 c8) (q5 _)) (Aw (o4 KP (N7 (Xl K) (N7 (Lj K) (i6 8) (HU Er j0) (fun _ _=>rfl)) j0 (fun _ _=>rfl)) (i6 2) (q5 _))))) (e7 (q0 (Ca K B6 N0 M8 y8 (i6 8) (c4 (P8 (c4 (i6 2) (c4 (B4 c8) c8))) c8)))) o7)
  (e7 (q0 (Ca K B6 N0 M8 y8 (N7 (Xl K) (N7 (Lj K) (i6 8) (HU Er j0) (fun _ _=>rfl)) j0 (fun _ _=>rfl)) (c4 (i6 7) c8))))))))))))
  (e7 (l6 (i6 1))))),?_⟩
 and_intros
 simpa only[↓Y5]
 intro b hb
 have De:xs.length=ms.length:=by have:=hD.length;rwa [i5] at this
 have t0:TI H b [] (upd H b (.dK [])):=⟨fun _=>0,fun _ _=>0,V8 (fun _=>none) b (some []),[],⟨d0 hb _,fun c hc=>by
  by_cases e:c=b
  ·rw[e];exact⟨hb,by rw[c5];intro z;cases z⟩
  ·rw[D0 e] at hc;exact absurd rfl hc,⟨c5,G9⟩,fun f D h=>(by cases h),fun f D w r h=>(by cases h)⟩,⟨rfl,fun _=>rfl,fun _ _=>⟨rfl,fun i a q e=>(by cases e)⟩⟩⟩
 refine⟨⟨xs,o6.of (k7 ha hb)⟩,w6 xs (QcD H a b ms) ⟨_,_,_,_,_,_,_,rfl,t0,⟨x5 _,fun x hx=>(by cases hx)⟩⟩ ?_ ?_ ?_⟩
 ·rintro i σ L hi ⟨v2,v3,v4,v5,v6,v7,v8,rfl,ti,_⟩
  exact o6.of (ti.bs _ _ ha)
 ·rintro i y σ L hy ⟨v2,v3,v4,v5,v6,v7,v8,rfl,ti,hsz⟩
  obtain⟨dv,h1,h2⟩:=hD.get hy
  rw[u8] at h1
  obtain⟨m,hm,rfl⟩:=D3.mp h1
  obtain⟨b',c,zs,rfl,hb',hc,hz⟩:=Gv h2
  have OV:m∈ms:=E7 hm
  have Ux:i<ms.length:=(D9.mp hm).1
  simpa only[l8]
  refine⟨_,AG.of (ti.bs _ _ hb'),rfl,?_⟩
  simpa only[l8]
  refine⟨⟨zs,o6.of (ti.bs _ _ hc)⟩,w6 zs (YE H a b ms m (.ref c) i) ⟨_,_,_,_,_,rfl,ti,hsz⟩ ?_ ?_ ?_⟩
  ·rintro j σ L hj ⟨v4,v5,v6,v7,v8,rfl,tj,_⟩
   exact o6.of (tj.bs _ _ hc)
  ·rintro j y σ L hyj ⟨v4,v5,v6,v7,v8,rfl,tj,Ef⟩
   obtain⟨dv,h1,h2⟩:=hz.get hyj
   rw[u8] at h1
   obtain⟨fl,Xu,rfl⟩:=D3.mp h1
   obtain⟨t,rfl,ht⟩:=Ng h2
   have Wa:fl∈m.2:=E7 Xu
   have hjl:j<m.2.length:=(D9.mp Xu).1
   obtain⟨b1,b2,b3⟩:=(Eh m OV).2 fl Wa
   have hm20:=(Eh m OV).1
   have nd:=(Bt (OF LZ hm).2.1).2
   have hm0:0<=m.1:=by have:=(V6 LZ).1 m OV;omega
   have dok:=Fx (NP (F:=[]) LZ (fun y hy=>(by cases hy)) hm) nd j (by omega)
   rw[AE hjl,(D9.mp Xu).2] at dok
   have hO:=dok.at_
   have VZ:=hO.free
   simpa only[l8]
   refine⟨_,AG.of (tj.bs _ _ ht),rfl,?_⟩
   simpa only[Sl]
   refine⟨by omega,b3,fun wl xw L1 s1 LY hwv hDw=> ?_⟩
   have hwn:=Au b2
   have eF:=JA (m:=m.1) (F:=J5 [] (ms.take i)) Xu
   unfold YE
   rw[eF]
   have e4:(4*i+j)*1000+1000=(4*i+(j+1))*1000:=by omega
   have hwl2:xw.length=(A7 fl.2).length:=by have:=hDw.length;rw[this];unfold A7;rw[i5,i5]
   have Lp:∀{k:Nat} {wd:Str},(A7 fl.2)[k]? =some wd->∃(t:Addr) (us:List V),xw[k]? =some (.ref t)/\L t=none/\L1 t=some (.tup us)/\us[0]? =some (.str wd):=fun{k wd} hk=>by
    unfold A7 at hk
    rw[u8] at hk
    obtain⟨x,hx,rfl⟩:=D3.mp hk
    have VY:k<xw.length:=by rw[hwl2];unfold A7;rw[i5];exact(D9.mp hx).1
    obtain⟨dv,g1,g2⟩:=hDw.get (u9 VY)
    rw[u8,hx] at g1
    cases g1
    obtain⟨t,e1,e2⟩:=UM g2
    obtain⟨e3,e4⟩:=EZ (At _ _ _ _ e2)
    exact⟨t,_,by rw[u9 VY,e1],e4,e3,rfl⟩
   generalize BZ m.1 (J5 [] (ms.take i)) (m.2.take j)=F0 at tj Ef VZ hO⊢
   generalize A7 fl.2=ws at hwn hwl2 Lp⊢
   obtain⟨da,ra,pa0,S,tt,al⟩:=tj
   have un:∀{p},L p=none->H p=none/\pa0 p=none:=fun h=>⟨tt.base.free h,CF fun e=>(tt.own _ e).2 h⟩
   obtain⟨gwl,pwl⟩:=un LY
   refine⟨_, .inl (o6.of hwv),by omega,by omega,O8 (lo:=0) (n:=((xw.length:Nat):Int).toNat) (YD H a b wl m (.ref c) fl F0 ws L1 pa0) ⟨_,_,rfl,da,ra,pa0,S,tt.same QT s1,al.same s1,j9.refl _⟩ ?_ ?_⟩
   ·rintro k σ M hk ⟨v7,v8,rfl,da,ra,pa,S,tk,ak,fk'⟩
    have VY:k<ws.length:=by omega
    have YJ:ws[k]? =some ws[k]:=u9 VY
    generalize ws[k]=wd at YJ
    obtain⟨t1',us,x1,x2,x3,x4⟩:=Lp YJ
    have ek:Ct m.1 fl.1 F0 0 (ws.take (k+1))=KT.mod (Ct m.1 fl.1 F0 0 (ws.take k)) fl.1 fun o=>Ji m.1 (o.getD []) wd (k:Int):=by
     rw[q9,YJ]
     show Ct m.1 fl.1 F0 0 (ws.take k++[wd])=_
     rw[HX,I9,Ha (by omega),Int.zero_add]
    have hsk:Sz ((4*i+j)*1000+1000) (Ct m.1 fl.1 F0 0 (ws.take k)):=by
     rw[EC VZ]
     exact FA Ef (by rw[I9];omega)
    have Hw:A4 (Ct m.1 fl.1 F0 0 (ws.take k)) fl.1 wd=A4 F0 fl.1 wd++pc m.1 (Q4 wd 0 (ws.take k)):=by rw[EC VZ,LN,if_pos rfl]
    have hlt0:∀q∈A4 F0 fl.1 wd,q.1<m.1:=fun q hq=>by
     unfold A4 at hq
     cases e:get (E1 F0 fl.1) wd with
     |none=>rw[SX e] at hq;cases hq
     |some r=>
      rw[SW e] at hq
      exact(hO _ (G8 e)).2 q hq
    simpa only[l8]
    unfold YD
    rw[ek]
    generalize Ct m.1 fl.1 F0 0 (ws.take k)=F1 at ak hsk Hw⊢
    have lS:S.length=F1.length:=by have:=congrArg List.length ak.kf;rwa [i5,i5] at this
    have hsF:=hsk.at_ (f:=fl.1)
    refine tk.setdF (f:=fl.1) (e1:=Wk 1) (e2:=Wk 4) QT (fun _ h=>h) (fun _ _ h=>h) (by rw[lS];have:=hsk.1;omega) fun da1 pa1 M1 t1 fr1=> ?_
    have g1:get (KT.mod S fl.1 fun o=>o.getD []) fl.1=some (E1 S fl.1):=J7 ..
    have lD:(E1 S fl.1).length=(E1 F1 fl.1).length:=by have:=congrArg List.length (ak.kw fl.1);rwa [i5,i5] at this
    have lD2:(E1 F1 fl.1).length<=(4*i+j)*1000+1000:=hsF.1
    have fk1:=fk'.trans fr1.free
    have hw1:=(BC (fk1 _ _ (Bd hwv gwl pwl))).1
    obtain⟨gt1,pt1⟩:=un x2
    have ht1:=(BC (fk1 _ _ (Bd x3 gt1 pt1))).1
    have ax:DI xw (0+(k:Int))=some (.ref t1'):=by rw[show (0:Int)+(k:Int)=((k:Nat):Int) by omega];exact V9 x1
    have ax2:DI us 0=some (.str wd):=V9 (j:=0) x4
    refine t1.setdW (w:=wd) QT g1 (fun Q h=> ?_) (by omega) (fun _=>⟨[],rfl,trivial⟩) fun ra2 pa2 M2 t2 fr2=> ?_
    ·simpa only[l8]
     exact⟨_,o6.of hw1,_,ax,t1',rfl,_,AG.of ht1,_,ax2,h⟩
    have g2:get (KT.mod (KT.mod S fl.1 fun o=>o.getD []) fl.1 fun _=>KT.mod (E1 S fl.1) wd fun o=>o.getD []) fl.1=some (KT.mod (E1 S fl.1) wd fun o=>o.getD []):=J7 ..
    have g3:get (KT.mod (E1 S fl.1) wd fun o=>o.getD []) wd=some (A4 S fl.1 wd):=J7 ..
    obtain⟨⟨o,hr2,xr,rfl,hxr⟩,hr3⟩:=t2.row fl.1 _ wd _ g2 g3
    have fr12:=fr1.trans fr2
    have ra12:∀f' w',RA M2 pa2 f' w' (A4 S f' w') (A4 F1 f' w'):=fun f' w'=>(ak.row f' w').fr fr12
    have fk2:=fk1.trans fr2.free
    have hRA:=ra12 fl.1 wd
    have hxl2:=hxr.len
    have hrl:(A4 F1 fl.1 wd).length<=(4*i+j)*1000+1000:=by
     cases e:get (E1 F1 fl.1) wd with
     |none=>rw[show A4 F1 fl.1 wd=[] from SX e];exact x5 _
     |some r=>rw[show A4 F1 fl.1 wd=r from SW e];exact hsF.2 _ (G8 e)
    have hsl:=hRA.1
    have e0k:(0:Int)+(k:Int)=(k:Int):=by omega
    have eS:∀s',(KT.mod (KT.mod (KT.mod S fl.1 fun o=>o.getD []) fl.1 fun _=>KT.mod (E1 S fl.1) wd fun o=>o.getD []) fl.1 fun _=>KT.mod (KT.mod (E1 S fl.1) wd fun o=>o.getD []) wd fun _=>s')=KT.mod S fl.1 fun _=>KT.mod (E1 S fl.1) wd fun _=>s':=fun s'=>by rw[Z3,Z3,Z3]
    have eF1:∀r',(KT.mod (A4 F1 fl.1 wd) m.1 fun q=>q.getD []++[(k:Int)])=r'->(KT.mod F1 fl.1 fun o=>Ji m.1 (o.getD []) wd (k:Int))=KT.mod F1 fl.1 fun _=>KT.mod (E1 F1 fl.1) wd fun _=>r':=fun r' e=>by
     refine K5 ?_
     show Ji m.1 (E1 F1 fl.1) wd (k:Int)=_
     unfold Ji
     refine K5 ?_
     exact e
    have hmn:get (A4 F0 fl.1 wd) m.1=none:=by
     cases e:get (A4 F0 fl.1 wd) m.1 with
     |none=>rfl
     |some v=>have:=hlt0 _ (G8 e);simp only at this;omega
    refine⟨x5 _,fun p hp=>⟨_,rfl,xr,o6.of (k7 hr2 hp),o6.of c5,?_⟩⟩
    have sp:=d0 hp (.lst [])
    have t3:=t2.same QT sp
    have hp3:=k7 (o:= .lst []) hr2 hp
    have ra3:∀f' w',RA (upd M2 p (.lst [])) pa2 f' w' (A4 S f' w') (A4 F1 f' w'):=fun f' w'=>(ra12 f' w').same sp
    have hxr3:=hxr.same (AB (G:=H) (pa:=pa2) sp)
    have fk3:=fk2.trans (AB (G:=H) (pa:=pa2) sp)
    generalize upd M2 p (.lst [])=M3 at t3 hp3 ra3 hxr3 fk3⊢
    have onN:∀{b0 q},pa2 b0=some q->M3 b0≠none:=fun h=>(t3.own _ (by rw[h];intro z;cases z)).2
    generalize hps:Q4 wd 0 (ws.take k)=ps at Hw
    by_cases cp:ps=[]
    ·rw[cp,Ts,List.append_nil] at Hw
     refine Uk ?_ (fun hA c=> ?_)
     ·refine⟨.inl ⟨rfl,_,o6.of hp3⟩,x5 _,fun p2 hp2=>⟨by decide,fun p4 hp4=> ?_⟩⟩
      have n24:p2≠p4:=fun z=>by rw[<-z,c5] at hp4;cases hp4
      have hp4':M3 p4=none:=by rwa [i4 n24.symm] at hp4
      have hrp:=k7 (o:= .tup [.int m.1, .ref p2]) (k7 (o:= .lst []) hp3 hp2) hp4
      have nrp2:ra2 fl.1 wd≠p2:=k9 hp3 hp2
      have nrp4:ra2 fl.1 wd≠p4:=k9 hp3 hp4'
      have t4:=t3.far (q:=Ov fl.1 wd m.1) (o:= .lst []) QT hp2
      have t5:=t4.same QT (d0 hp4 (.tup [.int m.1, .ref p2]))
      have hn4:H p4=none/\V8 pa2 p2 (some (Ov fl.1 wd m.1)) p4=none:=⟨t4.base.free hp4,CF fun e=>(t4.own p4 e).2 hp4⟩
      have hxr5:NH (Eg H (V8 pa2 p2 (some (Ov fl.1 wd m.1))) (upd (upd M3 p2 (.lst [])) p4 (.tup [.int m.1, .ref p2]))) xr (A4 S fl.1 wd):=hxr3.same ((CY hp2).trans (AB (d0 hp4 _)))
      have t6:=t5.chg g2 g3 (o:= .lst (xr++[.ref p4])) ⟨_,rfl,hxr5.snoc (Bd c5 hn4.1 hn4.2)⟩
      have t7:=t6.out (N:=p2) (o:= .lst [.int (k:Int)]) G9 (Fp _ _ _)
      rw[eS] at t7
      have hl2:(upd (upd (upd M3 p2 (.lst [])) p4 (.tup [.int m.1, .ref p2])) (ra2 fl.1 wd) (.lst (xr++[.ref p4]))) p2=some (.lst []):=by rw[i4 nrp2.symm,i4 n24,c5]
      have hl4:(upd (upd (upd M3 p2 (.lst [])) p4 (.tup [.int m.1, .ref p2])) (ra2 fl.1 wd) (.lst (xr++[.ref p4]))) p4=some (.tup [.int m.1, .ref p2]):=by rw[i4 nrp4.symm,c5]
      refine⟨_,rfl,xr,hrp,by omega,_,rfl,_,o6.of c5,_,Gc (x:= .ref p4) (by simp),p4,rfl,_,AG.of hl4, .ref p2,rfl, .inl ⟨rfl,_,o6.of hl2⟩,p2,rfl,[],hl2,by show 0<sizeLine;omega,_,_,rfl,da1,ra2,V8 pa2 p2 (some (Ov fl.1 wd m.1)),KT.mod S fl.1 fun _=>KT.mod (E1 S fl.1) wd fun _=>A4 S fl.1 wd++[(m.1,[(p2:Int)])],?_,?_,?_⟩
      ·rw[e0k];exact t7
      ·rw[e0k,eF1 (A4 F1 fl.1 wd++[(m.1,[(k:Int)])]) (by rw[Hw,P4 hmn];rfl)]
       have tr:∀f' w' s' r',RA M3 pa2 f' w' s' r'->RA (upd (upd (upd (upd M3 p2 (.lst [])) p4 (.tup [.int m.1, .ref p2])) (ra2 fl.1 wd) (.lst (xr++[.ref p4]))) p2 (.lst ([]++[.int (k:Int)]))) (V8 pa2 p2 (some (Ov fl.1 wd m.1))) f' w' s' r':=fun f' w' s' r' hh=>⟨hh.1,fun ix aa qq e1 e2=>by
        obtain⟨h1,h2,b0,h3,h4,h5⟩:=hh.2 ix aa qq e1 e2
        have n1:b0≠p2:=fun z=>onN h5 (by rw[z];exact hp2)
        have n2:b0≠p4:=fun z=>onN h5 (by rw[z];exact hp4')
        have n3:b0≠ra2 fl.1 wd:=W3 h5 hr3 fun e=>by have:=Fp f' w' qq.1;rw[e] at this;exact absurd this (by show ¬2<2;decide)
        exact⟨h1,h2,b0,h3,by rw[i4 n1,i4 n3,i4 n2,i4 n1];exact h4,by rw[D0 n1];exact h5⟩⟩
       refine ak.put (s:=A4 S fl.1 wd++[(m.1,[(p2:Int)])]) ⟨by rw[l0,l0,hsl];rfl,fun ix aa qq e1 e2=> ?_⟩ fun f' w' _=>tr _ _ _ _ (ra3 f' w')
       by_cases cx:ix<(A4 S fl.1 wd).length
       ·rw[GI cx] at e1
        rw[GI (by omega)] at e2
        exact(tr _ _ _ _ (ra3 fl.1 wd)).2 ix aa qq e1 e2
       ·rw[Em (by omega)] at e1
        rw[Em (by omega)] at e2
        have z1:=D4.mp (E7 e1)
        have z2:=D4.mp (E7 e2)
        rw[z1,z2]
        exact⟨rfl,hm0,p2,rfl,c5,G9⟩
      ·have z1:Eg H (V8 pa2 p2 (some (Ov fl.1 wd m.1))) (upd (upd (upd (upd M3 p2 (.lst [])) p4 (.tup [.int m.1, .ref p2])) (ra2 fl.1 wd) (.lst (xr++[.ref p4]))) p2 (.lst ([]++[.int (0+(k:Int))])))=Eg H (V8 pa2 p2 (some (Ov fl.1 wd m.1))) (upd (upd M3 p2 (.lst [])) p4 (.tup [.int m.1, .ref p2])):=(AT (by rw[G9];intro z;cases z)).trans (AT (by rw[D0 nrp2,hr3];intro z;cases z))
       rw[z1]
       exact fk3.trans ((CY hp2).trans (AB (d0 hp4 _)))
     ·have Ig:(A4 S fl.1 wd).length≠0:=fun z=>c (by rw[List.isEmpty_iff];exact Dy (hxl2.trans z))
      have ha1:(A4 S fl.1 wd)[(A4 S fl.1 wd).length-1]? =some ((A4 S fl.1 wd)[(A4 S fl.1 wd).length-1]'(by omega)):=u9 _
      have ha2:(A4 F1 fl.1 wd)[(A4 S fl.1 wd).length-1]? =some ((A4 F1 fl.1 wd)[(A4 S fl.1 wd).length-1]'(by omega)):=u9 _
      have hlq:=hlt0 _ (by rw[<-Hw];exact E7 ha2)
      generalize (A4 S fl.1 wd)[(A4 S fl.1 wd).length-1]'(by omega)=aa at ha1
      generalize (A4 F1 fl.1 wd)[(A4 S fl.1 wd).length-1]'(by omega)=qq at ha2 hlq
      have eaq:=((ra3 fl.1 wd).2 _ aa qq ha1 ha2).1
      obtain⟨t9,b9,z1,z2,z3⟩:=hxr3.at_ ha1
      refine⟨_,rfl,_,o6.of hp3,_,Gc (by rw[hxl2];exact z1),t9,rfl,_,AG.of (BC z2).1,_,rfl,rfl,?_⟩
      rw[if_pos (by rw[BG (fun e=>absurd (show aa.1=m.1 by injection e) (by omega))];rfl)]
      exact hA
    ·rw[pc,if_neg cp] at Hw
     have hn1:(A4 S fl.1 wd).length=(A4 F0 fl.1 wd).length+1:=by rw[hsl,Hw,l0];rfl
     have ha1:(A4 S fl.1 wd)[(A4 F0 fl.1 wd).length]? =some ((A4 S fl.1 wd)[(A4 F0 fl.1 wd).length]'(by omega)):=u9 _
     generalize (A4 S fl.1 wd)[(A4 F0 fl.1 wd).length]'(by omega)=aa at ha1
     have ha2:(A4 F1 fl.1 wd)[(A4 F0 fl.1 wd).length]? =some (m.1,ps):=by rw[Hw,Em (l9 _),JO];rfl
     obtain⟨h1,h2,b9,h3,h4,h5⟩:=(ra3 fl.1 wd).2 _ aa _ ha1 ha2
     simp only at h1 h4 h5
     obtain⟨t9,b8,z1,z2,z3⟩:=hxr3.at_ ha1
     have eb:b8=b9:=Int.ofNat.inj (Dx (z3.symm.trans h3)).1
     subst eb
     have hlast:DI xr (-1)=some (.ref t9):=Gc (by rw[hxl2,hn1,Hb];exact z1)
     have htu:=(BC z2).1
     have hpl2:ps.length<=1000:=by
      rw[<-hps]
      have l2:∀(l:List Str) (i:Int),(Q4 wd i l).length<=l.length:=by
       intro l
       induction l with
       |nil=>intro i;exact l9 _
       |cons x r ih=>
        intro i
        rw[Q4,l0,List.length_cons]
        have:=ih (i+1)
        split<;>simp<;>omega
      have:=l2 (ws.take k) 0
      rw[I9] at this
      omega
     have hxe:xr.isEmpty=false:=by
      cases xr with
      |nil=>cases z1.symm.trans (List.getElem?_nil)
      |cons=>rfl
     rw[if_neg (by rw[hxe];decide)]
     refine⟨_,rfl,_,o6.of hp3,_,hlast,t9,rfl,_,AG.of htu,_,rfl,rfl,?_⟩
     rw[if_neg (by rw[h1,R8 rfl];decide)]
     refine⟨_,rfl,_,o6.of hp3,_,hlast,t9,rfl,_,AG.of htu, .ref b8,rfl, .inl ⟨rfl,_,o6.of h4⟩,b8,rfl,_,h4,by rw[i5];omega,_,_,rfl,da1,ra2,pa2,_,t3.out h5 (Fp _ _ _),?_,?_⟩
     ·have eS2:(KT.mod (KT.mod S fl.1 fun o=>o.getD []) fl.1 fun _=>KT.mod (E1 S fl.1) wd fun o=>o.getD [])=KT.mod S fl.1 fun _=>KT.mod (E1 S fl.1) wd fun _=>A4 S fl.1 wd:=by
       rw[Z3]
       exact K5 (K5 rfl)
      rw[eS2,e0k,eF1 (A4 F0 fl.1 wd++[(m.1,ps++[(k:Int)])]) (by rw[Hw,Lb hmn];rfl)]
      have em:ps.map V.int++[V.int (k:Int)]=(ps++[(k:Int)]).map V.int:=by rw[n4];rfl
      rw[em]
      have tr:∀f' w' ix (aa qq:Int×List Int),(A4 S f' w')[ix]? =some aa->(A4 F1 f' w')[ix]? =some qq->¬(f'=fl.1/\w'=wd/\qq.1=m.1)->aa.1=qq.1/\0<=qq.1/\∃b0:Addr,aa.2=[(b0:Int)]/\(upd M3 b8 (.lst ((ps++[(k:Int)]).map V.int))) b0=some (.lst (qq.2.map V.int))/\pa2 b0=some (Ov f' w' qq.1):=fun f' w' ix aa qq e1 e2 nn=>by
       obtain⟨g1,g2,b0,g3,g4,g5⟩:=(ra3 f' w').2 ix aa qq e1 e2
       have n1:b0≠b8:=W3 g5 h5 fun e=>nn (WE g2 hm0 e)
       exact⟨g1,g2,b0,g3,by rw[i4 n1];exact g4,g5⟩
      refine ak.put ⟨by rw[hn1,l0];rfl,fun ix aa' qq e1 e2=> ?_⟩ fun f' w' nn=>⟨(ra3 f' w').1,fun ix aa' qq e1 e2=>tr f' w' ix aa' qq e1 e2 fun z=>nn ⟨z.1,z.2.1⟩⟩
      by_cases cx:ix<(A4 F0 fl.1 wd).length
      ·rw[GI cx] at e2
       refine tr fl.1 wd ix aa' qq e1 (by rw[Hw,GI cx];exact e2) fun z=> ?_
       have:=hlt0 _ (E7 e2)
       omega
      ·rw[Em (by omega)] at e2
       have z9:=D4.mp (E7 e2)
       have ei:ix=(A4 F0 fl.1 wd).length:=by have:=(D9.mp e1).1;omega
       rw[ei,ha1] at e1
       cases e1
       rw[z9]
       exact⟨h1,hm0,b8,h3,c5,h5⟩
     ·rw[AT (by rw[h5];intro z;cases z)]
      exact fk3
   ·rintro σ M ⟨v7,v8,rfl,da,ra,pa,S,tk,ak,fk'⟩
    have en:((xw.length:Nat):Int).toNat=ws.length:=by omega
    rw[en,B7,EC VZ] at ak
    exact⟨_,_,_,_,_,rfl,⟨da,ra,pa,S,tk,ak⟩,by rw[<-e4];exact FA Ef hwn⟩
  ·rintro σ L ⟨v4,v5,v6,v7,v8,rfl,tj,Ef⟩
   have hzl:zs.length=m.2.length:=by have:=hz.length;rwa [i5] at this
   rw[hzl,B7] at tj Ef
   have:=(Eh m OV).1
   have e1:=NR (F:=[]) hm
   exact⟨_,_,_,_,_,_,_,rfl,by rw[e1];exact tj,by rw[e1];exact Ef.mono (by omega)⟩
 ·rintro σ L ⟨v2,v3,v4,v5,v6,v7,v8,rfl,⟨da,ra,pa,S,t,al⟩,_⟩
  rw[De,B7] at al
  simpa only[l8]
  exact q b L t.base (al.fat t)
def FN:Sp:=fun vs H Q _=>∃(b:Addr) (mk:Int) (fl:Str) (ms:List Mk),vs=[.ref b, .int mk, .str fl]/\Rh H b (J5 [] ms)/\Ok ms/\∀H',j9 H H'->Q (.int (U7 ms mk fl)) H'
def Sj{v0:Addr}{v1:Int}{v2:Str}{H:Hp}{Q:VK}{E:XK}:=show FN [.ref v0, .int v1, .str v2] H Q E=_ by
 simpa only[FN]
 rfl
def QH(mk:Int)(D:Wt Str):Nat:=(D.map fun x=>Cm mk x.2).sum
theorem XA{ms:List Mk}(h:mw (-1) ms)(mk:Int)(f:Str):QH mk (U8 ms f)=U7 ms mk f:=by
 rw[<-Qa2 h mk f (C3 _).symm,QH,K8]
 congr 1
 refine Af fun x hx=> ?_
 obtain⟨i,hi⟩:=Bj.mp hx
 show Cm mk x.2=Cm mk (A1 ms f x.1)
 unfold A1
 rw[EH (FD ms f).1 hi]
 rfl
theorem Kn{α:Type}(g:α->Nat):∀l:List α,(l.map fun q=>(g q:Int)).sum=((l.map g).sum:Nat)
 |[]=>rfl
 |x::l=>by rw[List.map_cons,List.map_cons,K9,K9,Kn g l];omega
theorem KL:FnScope ["_law_table_here","_law_make","_law_field","_law_many","_law_word","_law_rows"] ["_law_table_here","_law_make","_law_field"] (i7 Wy):=by ac_rfl
def QcM(H L0:Hp)(b d:Addr)(mk:Int)(fl:Str)(o:Obj)(kv:List (D7×V))(D:Wt Str)(i:Nat)(σ:St)(L:Hp):Prop:=∃v4 v5:Option V,σ=[some (.ref b),some (.int mk),some (.str fl),some (.int (QH mk (D.take i))),v4,v5]/\Mv [d] L0 L/\L d=some (.frz o (.dK kv))
def QcN(L0:Hp)(mk:Int)(r:Rw)(i:Nat)(ys:List V)(σ:St)(L:Hp):Prop:=∃(v0 v1:Option V),ys=((((r.take i).filter fun q=>decide (q.1=mk)).map fun q=>(q.2.length:Int))).map V.int/\L=L0/\σ=[v0,v1,some (.int mk)]
theorem QaL(F:Fun K "_law_length" "_law_length" Wy f fd)(T:Txt mg):FnOk P w K mg bs0 x8 1 f fd ["_law_table_here","_law_make","_law_field"] FN:=by
 refine F.ok KL (fun vs H Q E h=> ?_) (fun H9 A outer s H vs Q E hr h=> ?_)
 ·obtain⟨b,mk,fl,ms,rfl,_⟩:=h
  rfl
 obtain⟨b,mk,fl,ms,rfl,⟨da,hb,hf⟩,ok,q⟩:=h
 refine⟨_,(c6 (i8 (i:=3) KL.nd rfl (Or.inl rfl) j0)
  (c6 (IY (x9 o8 rfl (Tn (XB K JR Vx PySem.F.type_dict_items TZ (Ax (T4 hr) (pv 0) (pv 2) R7 ⟨rfl,rfl,rfl,rfl⟩))) (LW K (n:=2) rfl (o9 (j5 (i:=4) KL.nd rfl (Or.inl rfl)) (o9 (j5 (i:=5) KL.nd rfl (Or.inl rfl)) P2)))
   (e7 (i8 (i:=3) KL.nd rfl (Or.inl rfl) (k8 K6 (pv 3) (j6 (UW K rfl) rfl T.sum (by decide+kernel) (c4 (X7 (N:=["_law_one","_law_places","_law_make"]) (pick:=[none,none,some 1]) (NX:=["_law_table_here","_law_make","_law_field","_law_many","_law_word","_law_rows"]) (sX:=i7 Wy) (by decide+kernel) rfl rfl rfl (r9 K (pv 5))
    (fun _ _ _ _=>(LW K (n:=2) rfl (o9 (j5 (i:=0) Qcu rfl (Or.inl rfl)) (o9 (j5 (i:=1) Qcu rfl (Or.inl rfl)) P2)))) (fun _ _ _ _=>(Tk (o4 Dd (pv 0) (pv 2) (q5 _)))) (fun _ _ _ _=>(j6 (Ba K) rfl T.len A9 (c4 (pv 1) c8)))) c8)))))))
  (e7 (l6 (pv 3))))),?_⟩
 and_intros
 simpa only[↓NS,↓Us,↓Tb,↓Dk,↓Y5]
 refine⟨.inl ⟨_, .inl hb⟩,fun p hp=> ?_⟩
 have sp:=d0 hp (.dK [])
 refine⟨_,BO.k (k:= .inr fl) (sp _ _ hb),?_⟩
 rw[E4]
 have el:=XA ok.2.1 mk fl
 obtain⟨d,ra,D,ed,hd0,OT,hD,hTh⟩:∃(d:Addr) (ra:Str->Addr) (D:Wt Str),(Option.map (fun _=>V.ref (da fl)) (get (J5 [] ms) fl)).getD (V.ref p)= .ref d/\(upd H p (.dK [])) d=some (.dK (P9 ra D))/\(∀w r,get D w=some r->∃xs,H (ra w)=some (.lst xs)/\i3 H (r.map Df) xs)/\U8 ms fl=D/\(H d=some (.dK (P9 ra D))\/H d=none):=by
  unfold U8
  cases e:get (J5 [] ms) fl with
  |none=>exact⟨p,fun _=>0,[],rfl,c5,fun w r e=>(by cases e),rfl, .inr hp⟩
  |some D=>
   obtain⟨ra,h1,h2⟩:=hf fl D e
   exact⟨da fl,ra,D,rfl,sp _ _ h1,h2,rfl, .inl h1⟩
 rw[ed]
 rw[hD] at el
 have ndD:(D.map (·.1)).Nodup:=by rw[<-hD];exact(FD ms fl).1
 refine⟨.inr (.inr (.inl ⟨rfl, .inl ⟨_,hd0⟩⟩)),d,rfl,_,hd0,fun r hr=>⟨d,c5,_,k7 hd0 hr,fun o=> ?_⟩⟩
 have sr:=sp.trans (d0 hr (IVo r d))
 have ndr:d≠r:=k9 hd0 hr
 refine Nc (QcM H (upd (upd H p (.dK [])) r (IVo r d)) b d mk fl o (P9 ra D) D) ⟨_,_,rfl,Mv.refl.upd (by simp),c5⟩ ?_ ?_ ?_
 ·rintro i σ L ⟨v4,v5,rfl,mL,hdL⟩
  exact hdL
 ·rintro i k v T σ L hk ⟨v4,v5,rfl,mL,hdL⟩ hT
  unfold P9 at hk
  rw[u8] at hk
  obtain⟨x,hx,e⟩:=D3.mp hk
  cases e
  obtain⟨xs,Hv,hDx⟩:=OT x.1 x.2 (EH ndD hx)
  have at_:∀{b0 u},H b0=some u->u≠ .dK (P9 ra D)->(upd L T (.tup [kV (.inr x.1), .ref (ra x.1)])) b0=some u:=fun{b0 u} e n=>by
   have e1:=sr _ _ e
   have nd:b0≠d:=AO e1 (k7 hd0 hr) n
   exact k7 (mL.at_ e1 nd) hT
  simpa only[l8]
  refine⟨_,AG.of c5,rfl,?_⟩
  simpa only[l8]
  have De:xs.length=x.2.length:=by have:=hDx.length;rwa [i5] at this
  have eL:QH mk (D.take (i+1))=QH mk (D.take i)+Cm mk x.2:=by
   unfold QH
   rw[q9,hx,n4,JV]
   simp
  refine⟨⟨xs,o6.of (at_ Hv (by intro z;cases z))⟩,?_⟩
  have ex2:A1 ms fl x.1=x.2:=by unfold A1;rw[hD,EH ndD hx];rfl
  have hr200:=(DX ok fl x.1).1
  rw[ex2] at hr200
  have nT:∀{b0 u},H b0=some u->u≠ .dK (P9 ra D)->(upd L T (.tup [kV (.inr x.1), .ref (ra x.1)])) b0=some u:=fun e n=>at_ e n
  refine Y9 xs (QcN (upd L T (.tup [kV (.inr x.1), .ref (ra x.1)])) mk x.2) ⟨none,none,rfl,rfl,rfl⟩ ?_ ?_ ?_
  ·rintro j ys σ M hj ⟨v0,v1,rfl,rfl,rfl⟩
   refine⟨o6.of (nT Hv (by intro z;cases z)),T9 ?_⟩
   rw[i5,i5]
   have:=List.length_filter_le (fun q:Int×List Int=>decide (q.1=mk)) (x.2.take j)
   rw[I9] at this
   omega
  ·rintro j y ys σ M hy ⟨v0,v1,rfl,rfl,rfl⟩
   obtain⟨dv,h1,h2⟩:=hDx.get hy
   rw[u8] at h1
   obtain⟨pq,hpq,rfl⟩:=D3.mp h1
   obtain⟨a9,b9,rfl,ha9,hb9⟩:=EL h2
   simpa only[l8]
   refine⟨_,AG.of (nT ha9 (by intro z;cases z)),rfl,?_⟩
   simpa only[l8]
   have eT:x.2.take (j+1)=x.2.take j++[pq]:=by rw[q9,hpq];rfl
   refine O3 (fun c=>⟨_, .inl (o6.of (nT hb9 (by intro z;cases z))),_,_,?_,rfl,rfl⟩) (fun c=>⟨_,_,?_,rfl,rfl⟩)
   ·rw[eT,Vm,n4,n4,List.filter_cons_of_pos (by simpa using c),i5]
    rfl
   ·rw[eT,Vm,n4,n4,List.filter_cons_of_neg (by simpa using c)]
    simp
  ·rintro ys σ M ⟨v0,v1,rfl,rfl,rfl⟩ p9 hp9
   rw[De,B7]
   refine⟨p9,rfl,_,o6.of c5,some (kV (Sum.inr x.1)),some (V.ref (ra x.1)),?_,?_,?_⟩
   ·rw[eL,Kn fun q:Int×List Int=>q.2.length]
    rfl
   ·exact mL.trans (Mv.of ((d0 hT _).trans (d0 hp9 _)))
   ·exact k7 (k7 hdL hT) hp9
 ·rintro σ L ⟨v4,v5,rfl,mL,hdL⟩
  have ek:(P9 ra D).length=D.length:=S8
  rw[ek,B7,el]
  rcases hTh with h1|h1
  ·refine⟨_, .inr ⟨d,o,_,h1,hdL,rfl⟩,_,rfl,q _ fun b0 u e=> ?_⟩
   by_cases c:b0=d
   ·rw[c,h1] at e
    rw[c,c5,e]
   ·rw[i4 c]
    exact mL.at_ (sr _ _ e) c
  ·exact⟨_, .inl rfl,_,rfl,q _ fun b0 u e=>mL.at_ (sr _ _ e) (k9 e h1)⟩
def Oe:Sp:=fun vs H Q _=>∃z:Str,vs=[.str z]/\z.length<=1000/\(∀c∈z.cps.toList,Yo c)/\∀p H',j9 H H'->H p=none->H' p=some (.lst ((A8 z).map V.int))->Q (.ref p) H'
theorem ZG:∀c,c<127->32<=c->c≠37->c∈cLS.cps.toList/\32+Txt.find cLS ⟨#[c]⟩+(if decide (4<Txt.find cLS ⟨#[c]⟩)=true then 1 else 0)=(c:Int):=by decide+kernel
theorem SF:FnScope ["_law_number","_law_found"] ["_law_number"] (i7 Qaa):=by ac_rfl
def QbE(H:Hp)(n:Nat)(p:Addr)(m:Nat)(σ:St)(L:Hp):Prop:=∃(r:Nat) (ms:List Int),m=r/\σ=[some (.int r),some (.ref p)]/\L=upd H p (.lst (ms.map V.int))/\ms++nb r=nb n
theorem QaK(F:Fun K "_law_number_bytes" "_law_number_bytes" Qaa f fd)(T:Txt mg):FnOk P w K mg bs0 x8 1 f fd ["_law_number"] X3:=by
 refine F.ok SF (fun vs H Q E h=> ?_) (fun H9 A outer s H vs Q E hr h=> ?_)
 ·obtain⟨n,rfl,_⟩:=h
  rfl
 obtain⟨n,rfl,hn,q⟩:=h
 have h3:=QY hn
 refine⟨_,(c6 (i8 (i:=1) SF.nd rfl (Or.inl rfl) (B4 c8))
  (c6 (V5 o8 (o4 HW (pv 0) j0 (q5 _))
   (c6 (q0 (Ca K B6 N0 M8 y8 (pv 1) (c4 (k8 K6 j0 (k8 E9 (pv 0) j0)) c8)))
  (e7 (i8 (i:=0) SF.nd rfl (Or.inl rfl) (k8 X8 (pv 0) j0)))))
  (c6 (q0 (Ca K B6 N0 M8 y8 (pv 1) (c4 (pv 0) c8)))
  (e7 (l6 (pv 1)))))),?_⟩
 and_intros
 simpa only[l8]
 refine⟨by decide,fun p hp=>⟨QbE H n p,⟨n,n,[],rfl,rfl,rfl,rfl⟩,?_⟩⟩
 rintro m σ L ⟨r,ms,rfl,rfl,rfl,e⟩
 have hl:ms.length<=3:=by
  rw[<-e,l0] at h3
  omega
 simpa only[l8]
 refine O3 (fun c=> ?_) (fun c=> ?_)
 ·have c':128<=m:=by have:=A2 c;omega
  refine⟨fun σ' H'=>∃m',m'<m/\QbE H n p m' σ' H',fun _ _ h=>h,?_⟩
  refine⟨.inl ⟨rfl,_,o6.of c5⟩,by decide,_,c5,Ag (by rw[i5];omega),⟨by decide,by decide⟩,?_⟩
  refine⟨m/128,by omega,m/128,ms++[((m % 128+128:Nat):Int)],rfl,?_,?_,?_⟩
  ·simp
  ·rw[AN,n4]
   congr 3
   simp
   omega
  ·rw[<-e,OE c',o5]
   rfl
 ·have c':m<128:=by simp at c;omega
  refine⟨.inl ⟨rfl,_,o6.of c5⟩,_,c5,Ag (by rw[i5];omega),?_⟩
  rw[AN]
  rw[KZ c'] at e
  rw[show ms.map V.int++[V.int (m:Int)]=(nb n).map V.int by rw[<-e,n4];rfl]
  exact q p hp
theorem Oj:FnScope ["_law_text","_law_found","_law_sign","_law_at"] ["_law_text"] (i7 ZY):=by ac_rfl
def QcO(z:Str)(p:Addr)(H:Hp)(i:Nat)(σ:St)(L:Hp):Prop:=∃v2 v3:Option V,σ=[some (.str z),some (.ref p),v2,v3]/\j9 H L/\L p=some (.lst ((nb z.length++(z.cps.toList.take i).map Int.ofNat).map V.int))
theorem QaI{g g2:Addr}{gd gd2:FuncData}(F:Fun K "_law_text_bytes" "_law_text_bytes" ZY f fd)(T:Txt mg)(GLNb:FnOk P w K mg bs0 x8 1 g gd ["_law_number"] X3)(bLNb:Binds K gd ["_law_number"] [])(kLNb:PySem.W.keepIn K (.ref g)=true)(mLNb:mg "_law_number_bytes"=some (.ref g))
  (GSig:FnOk P w K mg bs0 x8 1 g2 gd2 [] RW)(bSig:Binds K gd2 [] [])(kSig:PySem.W.keepIn K (.ref g2)=true)(mSig:mg "_law_signs"=some (.ref g2)):FnOk P w K mg bs0 x8 2 f fd ["_law_text"] Oe:=by
 refine F.ok Oj (fun vs H Q E h=> ?_) (fun H9 A outer s H vs Q E hr h=> ?_)
 ·obtain⟨z,rfl,_⟩:=h
  rfl
 obtain⟨z,rfl,hz,hA,q⟩:=h
 have hnl:=QY (n:=z.length) (by omega)
 refine⟨_,(c6 (i8 (i:=1) Oj.nd rfl (Or.inl rfl) (i9 GLNb hr rfl mLNb kLNb bLNb .nil j3 (c4 (j6 O4 rfl T.len A9 (c4 (pv 0) c8)) c8)))
  (c6 (x9 o8 rfl (Jc (pv 0)) (j5 (i:=2) Oj.nd rfl (Or.inl rfl))
   (c6 (i8 (i:=3) Oj.nd rfl (Or.inl rfl) (Ca K EQ Vp Vn (La rfl) (Tr GSig hr rfl mSig kSig bSig .nil j3) (c4 (pv 2) c8)))
  (e7 (q0 (Ca K B6 N0 M8 y8 (pv 1) (c4 (k8 K6 (k8 K6 j0 (pv 3)) (CT QN rfl T.int (by decide+kernel) (c4 (Fs HW (pv 3) j0 (q5 _)) c8))) c8))))))
  (e7 (l6 (pv 1))))),?_⟩
 and_intros
 simpa only[↓Z4,X3,↓Uq]
 refine⟨T9 (by omega),z.length,rfl,by omega,fun p hp=> ?_⟩
 refine UK (QcO z p H) ⟨none,none,rfl,d0 hp _,by rw[c5,M6];simp⟩ ?_ ?_
 ·rintro i c σ L hc ⟨v2,v3,rfl,sL,eP⟩
  obtain⟨c0,c1,c2⟩:=hA c (E7 hc)
  obtain⟨k1,k2⟩:=ZG c (by omega) c0 c2
  simpa only[RW]
  refine⟨rfl,c,rfl,k1, .inl ⟨rfl,_,o6.of eP⟩, .inr ⟨_,eP,Ag ?_,_,_,rfl,sL.newer hp _,?_⟩⟩
  ·rw[i5,l0,i5,I9,P7]
   omega
  ·rw[k2,c5,q9,hc]
   simp
 ·rintro σ L ⟨v2,v3,rfl,sL,eP⟩
  simpa only[l8]
  refine q p L sL hp ?_
  rw[eP,A8]
  congr 3
  rw[<-P7,B7]
theorem Ck:FnScope ["_law_postings","_law_found","_law_ahead","_law_make","_law_places","_law_before","_law_place"] ["_law_postings"] (i7 ZZ):=by ac_rfl
def Qbd(l:Addr)(r:Rw)(H:Hp)(i:Nat)(σ:St)(L:Hp):Prop:=∃(p:Addr) (v3 v4 v5 v6:Option V),σ=[some (.ref l),some (.ref p),some (.int (la (r.map (·.1)) i)),v3,v4,v5,v6]/\j9 H L/\H p=none/\L p=some (.lst ((nb r.length++((X5 r).take i).flatten).map V.int))
def Qbe(l b:Addr)(m:Int)(bs:List Int)(xs:List Int)(H:Hp)(k:Nat)(σ:St)(L:Hp):Prop:=∃(p:Addr) (v6:Option V),σ=[some (.ref l),some (.ref p),some (.int m),some (.int m),some (.ref b),some (.int (la xs k)),v6]/\j9 H L/\H p=none/\L p=some (.lst ((bs++((Ah xs).take k).flatten).map V.int))
theorem QaJ{g:Addr}{gd:FuncData}(F:Fun K "_law_postings_bytes" "_law_postings_bytes" ZZ f fd)(T:Txt mg)(GLNb:FnOk P w K mg bs0 x8 1 g gd ["_law_number"] X3)(bLNb:Binds K gd ["_law_number"] [])(kLNb:PySem.W.keepIn K (.ref g)=true)(mLNb:mg "_law_number_bytes"=some (.ref g)):FnOk P w K mg bs0 x8 2 f fd ["_law_postings"] Kt:=by
 refine F.ok Ck (fun vs H Q E h=> ?_) (fun H9 A outer s H vs Q E hr h=> ?_)
 ·obtain⟨l,ys,r,rfl,_⟩:=h
  rfl
 obtain⟨l,ys,r,rfl,hl,hD,⟨hR,hq,hrl,E2⟩,q⟩:=h
 have LX:ys.length=r.length:=by have:=hD.length;rwa [i5] at this
 unfold W4 at E2
 rw[l0] at E2
 refine⟨_,(c6 (i8 (i:=1) Ck.nd rfl (Or.inl rfl) (i9 GLNb hr rfl mLNb kLNb bLNb .nil j3 (c4 (j6 (Ba K) rfl T.len A9 (c4 (i6 0) c8)) c8)))
  (c6 (i8 (i:=2) Ck.nd rfl (Or.inl rfl) j0)
  (c6 (x9 o8 rfl (r9 K (i6 0)) (LW K (n:=2) rfl (o9 (j5 (i:=3) Ck.nd rfl (Or.inl rfl)) (o9 (j5 (i:=4) Ck.nd rfl (Or.inl rfl)) P2)))
   (c6 (i8 (i:=1) Ck.nd rfl (Or.inl rfl) (k8 Y7 (k8 Y7 (i6 1) (i9 GLNb hr rfl mLNb kLNb bLNb .nil j3 (c4 (k8 Cs (i6 3) (i6 2)) c8))) (i9 GLNb hr rfl mLNb kLNb bLNb .nil j3 (c4 (j6 (Ba K) rfl T.len A9 (c4 (i6 4) c8)) c8))))
  (c6 (i8 (i:=2) Ck.nd rfl (Or.inl rfl) (i6 3))
  (c6 (i8 (i:=5) Ck.nd rfl (Or.inl rfl) j0)
  (e7 (x9 o8 rfl (r9 K (i6 4)) (j5 (i:=6) Ck.nd rfl (Or.inl rfl))
   (c6 (i8 (i:=1) Ck.nd rfl (Or.inl rfl) (k8 Y7 (i6 1) (i9 GLNb hr rfl mLNb kLNb bLNb .nil j3 (c4 (k8 Cs (i6 6) (i6 5)) c8))))
  (e7 (i8 (i:=5) Ck.nd rfl (Or.inl rfl) (i6 6))))))))))
  (e7 (l6 (i6 1)))))),?_⟩
 and_intros
 simpa only[↓Z4,X3]
 refine⟨_, .inl (o6.of hl),r.length,by rw[LX],hrl,fun p0 hp0=>⟨⟨_,o6.of (k7 hl hp0)⟩,?_⟩⟩
 refine w6 ys (Qbd l r H) ⟨p0,none,none,none,none,rfl,d0 hp0 _,hp0,by rw[c5,M6];simp⟩ ?_ ?_ ?_
 ·rintro i σ L hi ⟨p,v3,v4,v5,v6,rfl,sL,hp,eP⟩
  exact o6.of (sL _ _ hl)
 ·rintro i y σ L hy ⟨p,v3,v4,v5,v6,rfl,sL,hp,eP⟩
  obtain⟨dv,h1,h2⟩:=hD.get hy
  rw[u8] at h1
  obtain⟨x,hx,rfl⟩:=D3.mp h1
  obtain⟨a,b,rfl,ha,hb⟩:=EL h2
  have Lm:(r.map (·.1))[i]? =some x.1:=by rw[u8,hx];rfl
  have Lp:=hR.1.at_ Lm
  obtain⟨hxb,OS⟩:=hq x (E7 hx)
  have Gj:=CO hx
  have Bc:=D6 Gj
  unfold O7 at Bc
  rw[l0,l0] at Bc
  simpa only[l8]
  refine⟨_,AG.of (sL _ _ ha),rfl,?_⟩
  simpa only[↓Z4,X3]
  have YL:(x.2.map V.int).length=x.2.length:=i5 _
  refine⟨(x.1-la (r.map (·.1)) i).toNat,by omega,by omega,fun t1 g1=>⟨_,k7 eP g1,_,c5,AX ?_,fun t2 g2=> ?_⟩⟩
  ·rw[i5,i5,l0]
   omega
  rw[<-n4]
  generalize hA:nb r.length++((X5 r).take i).flatten++nb (x.1-la (r.map (·.1)) i).toNat=bs1 at g2⊢
  have hAl:bs1.length<=16000000-(nb x.2.length).length-(Ah x.2).flatten.length:=by rw[<-hA,l0,l0];omega
  have s1:=(d0 g1 (.lst ((nb (x.1-la (r.map (·.1)) i).toNat).map V.int))).trans (d0 g2 (.lst (bs1.map V.int)))
  have eA:(upd (upd L t1 (.lst ((nb (x.1-la (r.map (·.1)) i).toNat).map V.int))) t2 (.lst (bs1.map V.int))) t2=some (.lst (bs1.map V.int)):=c5
  generalize upd (upd L t1 (.lst ((nb (x.1-la (r.map (·.1)) i).toNat).map V.int))) t2 (.lst (bs1.map V.int))=M1 at s1 eA⊢
  have hb1:=s1 _ _ (sL _ _ hb)
  refine⟨_, .inl (o6.of hb1),x.2.length,by rw[YL],OS.2.2,fun t3 g3=>⟨_,k7 eA g3,_,c5,AX ?_,fun t4 g4=> ?_⟩⟩
  ·rw[i5,i5]
   omega
  rw[<-n4]
  generalize hB:bs1++nb x.2.length=bs2 at g4⊢
  have hBl:bs2.length<=16000000-(Ah x.2).flatten.length:=by rw[<-hB,l0];omega
  have s3:=d0 g3 (.lst ((nb x.2.length).map V.int))
  have f4:H t4=none:=(sL.trans (s1.trans s3)).free g4
  have s2:=s3.trans (d0 g4 (.lst (bs2.map V.int)))
  have e4:(upd (upd M1 t3 (.lst ((nb x.2.length).map V.int))) t4 (.lst (bs2.map V.int))) t4=some (.lst (bs2.map V.int)):=c5
  generalize upd (upd M1 t3 (.lst ((nb x.2.length).map V.int))) t4 (.lst (bs2.map V.int))=M2 at s2 e4⊢
  have hb2:=s2 _ _ hb1
  have sL2:=sL.trans (s1.trans s2)
  refine⟨⟨_,o6.of hb2⟩,w6 (x.2.map V.int) (Qbe l b x.1 bs2 x.2 H) ⟨t4,_,rfl,sL2,f4,by rw[M6];simpa using e4⟩ ?_ ?_ ?_⟩
  ·rintro k σ M hk ⟨p9,v6,rfl,sM,hp9,e9⟩
   exact o6.of (sM _ _ hb)
  ·rintro k y σ M hy ⟨p9,v6,rfl,sM,hp9,e9⟩
   obtain⟨n,hn,rfl⟩:=AR hy
   have hat2:=OS.1.at_ hn
   have hnb:=OS.2.1 n (E7 hn)
   have hst2:=Ce hn
   have hle2:=D6 hst2
   simpa only[↓Z4,X3]
   refine⟨(n-la x.2 k).toNat,by omega,by omega,fun t5 g5=>⟨_,k7 e9 g5,_,c5,AX ?_,fun t6 g6=>⟨t6,some (.int n),?_,(sM.trans (d0 g5 _)).trans (d0 g6 _),(sM.trans (d0 g5 _)).free g6,?_⟩⟩⟩
   ·rw[i5,i5,l0]
    omega
   ·rw[AQ hn]
   ·rw[c5,K3 hst2,<-n4,o5]
  ·rintro σ M ⟨p9,v6,rfl,sM,hp9,e9⟩
   rw[YL,Y0 (by rw[As];exact l9 _)] at e9
   refine⟨p9,_,_,_,_,by rw[AQ Lm],sM,hp9,?_⟩
   rw[e9,K3 Gj,<-hB,<-hA,O7]
   simp only[o5]
 ·rintro σ L ⟨p,v3,v4,v5,v6,rfl,sL,hp,eP⟩
  simpa only[l8]
  rw[LX,Y0 (by rw[Bz];exact l9 _)] at eP
  exact q p L sL hp eP
def FO:Sp:=fun vs H Q _=>∃(ml b:Addr) (ms:List Mk),vs=[.ref ml, .ref b]/\H ml=some (.lst ((ms.map (·.1)).map V.int))/\Rh H b (J5 [] ms)/\Ok ms/\∀p H',j9 H H'->H p=none->H' p=some (.lst ((MJ ms).map V.int))->Q (.ref p) H'
def Wq{v0:Addr}{v1:Addr}{H:Hp}{Q:VK}{E:XK}:=show FO [.ref v0, .ref v1] H Q E=_ by
 simpa only[FO]
 rfl
def AC(H L:Hp)(p:Addr)(bs:List Int):Prop:=j9 H L/\H p=none/\L p=some (.lst (bs.map V.int))
theorem AC.cat{H L L':Hp}{p t:Addr}{bs cs:List Int}(h:AC H L p bs)(s:j9 L L')(ht:L' t=none):AC H (upd L' t (.lst (bs.map V.int++cs.map V.int))) t (bs++cs):=⟨h.1.trans (s.trans (d0 ht _)),(h.1.trans s).free ht,by rw[c5,n4]⟩
theorem W1:FnScope ["_law_makes_here","_law_table_here","_law_found","_law_ahead","_law_make","_law_field","_law_word"] ["_law_makes_here","_law_table_here"] (i7 SS):=by ac_rfl
def iP1(ml b:Addr)(ms:List Mk)(H:Hp)(i:Nat)(σ:St)(L:Hp):Prop:=∃(p:Addr) (v4 v5 v6:Option V),σ=[some (.ref ml),some (.ref b),some (.ref p),some (.int (la (ms.map (·.1)) i)),v4,v5,v6]/\AC H L p (nb ms.length++((Ah (ms.map (·.1))).take i).flatten)
def iP2(ml b fo:Addr)(ms:List Mk)(H:Hp)(i:Nat)(σ:St)(L:Hp):Prop:=∃(p:Addr) (v3 v4 v5 v6:Option V),σ=[some (.ref ml),some (.ref b),some (.ref p),v3,v4,v5,v6]/\AC H L p (O7 (ms.map (·.1))++nb (j7 ms).length++(((j7 ms).map (K7 ms)).take i).flatten)/\L fo=some (.lst ((j7 ms).map V.str))
def iP3(ml b fo:Addr)(ms:List Mk)(fl:Str)(bs:List Int)(H:Hp)(i:Nat)(σ:St)(L:Hp):Prop:=∃(p:Addr) (v3 v4 v6:Option V),σ=[some (.ref ml),some (.ref b),some (.ref p),v3,v4,some (.str fl),v6]/\AC H L p (bs++((E3 ms fl).take i).flatten)/\L fo=some (.lst ((j7 ms).map V.str))
def iP4(ml b fo wo:Addr)(ms:List Mk)(fl:Str)(bs:List Int)(H:Hp)(i:Nat)(σ:St)(L:Hp):Prop:=∃(p:Addr) (v3 v4 v6:Option V),σ=[some (.ref ml),some (.ref b),some (.ref p),v3,v4,some (.str fl),v6]/\AC H L p (bs++(((keysOf ms fl).map (O6 ms fl)).take i).flatten)/\L fo=some (.lst ((j7 ms).map V.str))/\L wo=some (.lst ((keysOf ms fl).map V.str))
theorem WR{g1 g2 g3 g4:Addr}{d1 d2 d3 d4:FuncData}(F:Fun K "_law_piece_bytes" "_law_piece_bytes" SS f fd)(T:Txt mg)(GLNb:FnOk P w K mg bs0 x8 1 g1 d1 ["_law_number"] X3)(bLNb:Binds K d1 ["_law_number"] [])(kLNb:PySem.W.keepIn K (.ref g1)=true)(mLNb:mg "_law_number_bytes"=some (.ref g1))
  (GLTb:FnOk P w K mg bs0 x8 2 g2 d2 ["_law_text"] Oe)(bLTb:Binds K d2 ["_law_text"] [])(kLTb:PySem.W.keepIn K (.ref g2)=true)(mLTb:mg "_law_text_bytes"=some (.ref g2))
  (GLPb:FnOk P w K mg bs0 x8 2 g3 d3 ["_law_postings"] Kt)(bLPb:Binds K d3 ["_law_postings"] [])(kLPb:PySem.W.keepIn K (.ref g3)=true)(mLPb:mg "_law_postings_bytes"=some (.ref g3))
  (GLen:FnOk P w K mg bs0 x8 1 g4 d4 ["_law_table_here","_law_make","_law_field"] FN)(bLen:Binds K d4 ["_law_table_here","_law_make","_law_field"] [])(kLen:PySem.W.keepIn K (.ref g4)=true)(mLen:mg "_law_length"=some (.ref g4)):FnOk P w K mg bs0 x8 3 f fd ["_law_makes_here","_law_table_here"] FO:=by
 refine F.ok W1 (fun vs H Q E h=> ?_) (fun H9 A outer s H vs Q E hr h=> ?_)
 ·obtain⟨ml,b,ms,rfl,_⟩:=h
  rfl
 obtain⟨ml,b,ms,rfl,OW,UC,ok,q⟩:=h
 obtain⟨da,hb,hf⟩:=id UC
 have hr1:Room 1 _:=hr.mono (by decide)
 have E2:=Jg ok
 unfold MJ at E2
 rw[l0,l0] at E2
 have hlr:(O7 (ms.map (·.1))).length=(nb ms.length).length+(Ah (ms.map (·.1))).flatten.length:=by unfold O7;rw[l0,i5]
 have Qt:=ED ok
 have hml2:((ms.map (·.1)).map V.int).length=ms.length:=by rw[i5,i5]
 have h200:=ok.1.1
 have hf4:=Cy ok
 have hfe:(J5 [] ms).length=(j7 ms).length:=by unfold j7;rw[(C3 _).length_eq,i5]
 refine⟨_,(c6 (i8 (i:=2) W1.nd rfl (Or.inl rfl) (i9 GLNb hr1 rfl mLNb kLNb bLNb .nil j3 (c4 (j6 (Ba K) rfl T.len A9 (c4 (i6 0) c8)) c8)))
  (c6 (i8 (i:=3) W1.nd rfl (Or.inl rfl) j0)
  (c6 (x9 o8 rfl (r9 K (i6 0)) (j5 (i:=4) W1.nd rfl (Or.inl rfl))
   (c6 (i8 (i:=2) W1.nd rfl (Or.inl rfl) (k8 Y7 (i6 2) (i9 GLNb hr1 rfl mLNb kLNb bLNb .nil j3 (c4 (k8 Cs (i6 4) (i6 3)) c8))))
  (e7 (i8 (i:=3) W1.nd rfl (Or.inl rfl) (i6 4)))))
  (c6 (i8 (i:=2) W1.nd rfl (Or.inl rfl) (k8 Y7 (i6 2) (i9 GLNb hr1 rfl mLNb kLNb bLNb .nil j3 (c4 (j6 CZ rfl T.len A9 (c4 (i6 1) c8)) c8))))
  (c6 (x9 o8 rfl (r9 K (j6 (K0) rfl T.sorted (by decide+kernel) (c4 (i6 1) c8))) (j5 (i:=5) W1.nd rfl (Or.inl rfl))
   (c6 (i8 (i:=2) W1.nd rfl (Or.inl rfl) (k8 Y7 (i6 2) (i9 GLTb hr rfl mLTb kLTb bLTb .nil j3 (c4 (i6 5) c8))))
  (c6 (x9 o8 rfl (r9 K (i6 0)) (j5 (i:=4) W1.nd rfl (Or.inl rfl))
   (e7 (i8 (i:=2) W1.nd rfl (Or.inl rfl) (k8 Y7 (i6 2) (i9 GLNb hr1 rfl mLNb kLNb bLNb .nil j3 (c4 (i9 GLen hr1 rfl mLen kLen bLen .nil j3 (c4 (i6 1) (c4 (i6 4) (c4 (i6 5) c8)))) c8))))))
  (c6 (i8 (i:=2) W1.nd rfl (Or.inl rfl) (k8 Y7 (i6 2) (i9 GLNb hr1 rfl mLNb kLNb bLNb .nil j3 (c4 (j6 CZ rfl T.len A9 (c4 (Z1 (T4 hr) (i6 1) (i6 5) (fun _ _=>rfl)) c8)) c8))))
  (e7 (x9 o8 rfl (r9 K (j6 (K0) rfl T.sorted (by decide+kernel) (c4 (Z1 (T4 hr) (i6 1) (i6 5) (fun _ _=>rfl)) c8))) (j5 (i:=6) W1.nd rfl (Or.inl rfl))
   (c6 (i8 (i:=2) W1.nd rfl (Or.inl rfl) (k8 Y7 (i6 2) (i9 GLTb hr rfl mLTb kLTb bLTb .nil j3 (c4 (i6 6) c8))))
  (e7 (i8 (i:=2) W1.nd rfl (Or.inl rfl) (k8 Y7 (i6 2) (i9 GLPb hr rfl mLPb kLPb bLPb .nil j3 (c4 (Z1 (T4 hr) (Z1 (T4 hr) (i6 1) (i6 5) (fun _ _=>rfl)) (i6 6) (fun _ _=>rfl)) c8))))))))))))
  (e7 (l6 (i6 2)))))))),?_⟩
 and_intros
 simpa only[↓Z4,X3]
 refine⟨_, .inl (o6.of OW),ms.length,by rw[hml2],by omega,fun p0 hp0=>⟨⟨_,o6.of (k7 OW hp0)⟩,?_⟩⟩
 refine w6 ((ms.map (·.1)).map V.int) (iP1 ml b ms H) ⟨p0,_,_,_,rfl,d0 hp0 _,hp0,by rw[c5,M6];simp⟩ ?_ ?_ ?_
 ·rintro i σ L hi ⟨p,v4,v5,v6,rfl,ac⟩
  exact o6.of (ac.1 _ _ OW)
 ·rintro i y σ L hy ⟨p,v4,v5,v6,rfl,ac⟩
  obtain⟨x,hx,rfl⟩:=AR hy
  have Lp:=Qt.1.at_ hx
  have hxb:=Qt.2.1 x (E7 hx)
  have Gj:=Ce hx
  have Bc:=D6 Gj
  simpa only[↓Z4,X3]
  refine⟨(x-la (ms.map (·.1)) i).toNat,by omega,by omega,fun t1 g1=>⟨_,k7 ac.2.2 g1,_,c5,AX ?_,fun t2 g2=>⟨t2,some (.int x),_,_,by rw[AQ hx],?_⟩⟩⟩
  ·rw[i5,i5,l0]
   omega
  ·have:=ac.cat (cs:=nb (x-la (ms.map (·.1)) i).toNat) (d0 g1 _) g2
   rw[K3 Gj,<-o5]
   exact this
 ·rintro σ L ⟨p,v4,v5,v6,rfl,ac⟩
  rw[hml2,Y0 (by rw[As,i5];exact l9 _)] at ac
  have er:nb ms.length++(Ah (ms.map (·.1))).flatten=O7 (ms.map (·.1)):=by unfold O7;rw[i5]
  rw[er] at ac
  simpa only[↓Z4,X3]
  refine⟨_,ac.1 _ _ hb,(j7 ms).length,by rw[S8,hfe],by omega,fun t1 g1=>⟨_,k7 ac.2.2 g1,_,c5,AX ?_,fun t2 g2=> ?_⟩⟩
  ·rw[i5,i5]
   omega
  have ac2:=ac.cat (cs:=nb (j7 ms).length) (d0 g1 _) g2
  generalize upd (upd L t1 (.lst ((nb (j7 ms).length).map V.int))) t2 (.lst ((O7 (ms.map (·.1))).map V.int++(nb (j7 ms).length).map V.int))=M at ac2⊢
  have hbM:=ac2.1 _ _ hb
  refine⟨_,hbM,_,Z7,by rw[i5];omega,fun fo ys DH OU Uu=> ?_⟩
  have ey:ys=j7 ms:=by unfold j7;rw[Bw OU Uu (Z0 _)]
  subst ey
  have sfo:=d0 DH (.lst ((j7 ms).map V.str))
  refine⟨⟨_,o6.of c5⟩,w6 ((j7 ms).map V.str) (iP2 ml b fo ms H) ⟨t2,_,_,_,_,rfl,⟨ac2.1.trans sfo,ac2.2.1,?_⟩,c5⟩ ?_ ?_ ?_⟩
  ·rw[M6]
   simpa using sfo _ _ ac2.2.2
  ·rintro i σ L hi ⟨p,v3,v4,v5,v6,rfl,ac,Fh⟩
   exact o6.of Fh
  ·rintro i y σ L hy ⟨p,v3,v4,v5,v6,rfl,ac,Fh⟩
   obtain⟨fl,Eh,rfl⟩:=Ai hy
   have Wa:=E7 Eh
   have hbt:((j7 ms).map (K7 ms))[i]? =some (K7 ms fl):=by rw[u8,Eh];rfl
   have Bc:=D6 hbt
   have hfb:(K7 ms fl).length=(A8 fl).length+(E3 ms fl).flatten.length+(nb (keysOf ms fl).length).length+((keysOf ms fl).map (O6 ms fl)).flatten.length:=by unfold K7;rw[l0,l0,l0]
   have hok:=Cz ok.2.1 Wa
   have hn12:fl.length<=12:=by
    have:=hok
    unfold Az at this
    rw[Q0] at this
    exact(A2 this.1).2
   obtain⟨D,hgD⟩:∃D,get (J5 [] ms) fl=some D:=GJ.mp (T5.mpr ((C3 _).mem_iff.mp Wa))
   obtain⟨ra,hd,OT⟩:=hf fl D hgD
   have hwD:U8 ms fl=D:=by unfold U8;rw[hgD];rfl
   have hkD:D.length=(keysOf ms fl).length:=by unfold keysOf;rw[(C3 _).length_eq,i5,hwD]
   have hkf:=Cw ok fl
   have hdg:C7 (P9 da (J5 [] ms)) (.inr fl)=some (.ref (da fl)):=by rw[E4,hgD];rfl
   generalize hB0:O7 (ms.map (·.1))++nb (j7 ms).length++(((j7 ms).map (K7 ms)).take i).flatten=bs0 at ac
   have hB0l:bs0.length+(K7 ms fl).length<=16000000:=by rw[<-hB0,l0,l0];omega
   simpa only[Oe]
   refine⟨by omega,OC hok,fun t1 L1 s1 ht1 htv=>⟨_,s1 _ _ ac.2.2,_,htv,AX ?_,fun t2 ht2=>⟨⟨(ms.map (·.1)).map V.int,o6.of ?_⟩,?_⟩⟩⟩
   ·rw[i5,i5]
    omega
   ·exact((ac.1.trans s1).trans (d0 ht2 _)) _ _ OW
   have ac2:=ac.cat (cs:=A8 fl) s1 ht2
   have hfo2:=(s1.trans (d0 ht2 (.lst (bs0.map V.int++(A8 fl).map V.int)))) _ _ Fh
   refine w6 ((ms.map (·.1)).map V.int) (iP3 ml b fo ms fl (bs0++A8 fl) H) ⟨t2,_,_,_,rfl,by rw[M6,List.flatten_nil,List.append_nil];exact ac2,hfo2⟩ ?_ ?_ ?_
   ·rintro j σ M hj ⟨p,v3,v4,v6,rfl,ac,_⟩
    exact o6.of (ac.1 _ _ OW)
   ·rintro j y σ M hy ⟨p,v3,v4,v6,rfl,ac,Fh⟩
    obtain⟨mk,hk,rfl⟩:=AR hy
    rw[u8] at hk
    obtain⟨m,hm,rfl⟩:=D3.mp hk
    have YL:(E3 ms fl)[j]? =some (nb (U7 ms m.1 fl)):=by unfold E3;rw[u8,hm];rfl
    have hle3:=D6 YL
    have hbd:=MS ok m.1 fl
    simpa only[↓Sj,FN,↓Z4,X3]
    refine⟨ms,UC.same ac.1,ok,fun L3 s3=>⟨U7 ms m.1 fl,rfl,by omega,fun t3 g3=>⟨_,k7 (s3 _ _ ac.2.2) g3,_,c5,AX ?_,fun t4 g4=>⟨t4,_,_,_,rfl,?_,?_⟩⟩⟩⟩
    ·rw[i5,i5,l0,l0]
     omega
    ·have:=ac.cat (cs:=nb (U7 ms m.1 fl)) (s3.trans (d0 g3 _)) g4
     rw[K3 YL,<-o5]
     exact this
    ·exact(s3.trans ((d0 g3 _).trans (d0 g4 _))) _ _ Fh
   ·rintro σ M ⟨p,v3,v4,v6,rfl,ac,Fh⟩
    rw[hml2,Y0 (by rw[E3,i5];exact l9 _)] at ac
    have hdM:=ac.1 _ _ hd
    simpa only[↓Z4,X3,↓DN]
    refine⟨_, .inl ⟨_, .inr fl, .inl (ac.1 _ _ hb),rfl,hdg.symm⟩,da fl,rfl,_,hdM,(keysOf ms fl).length,by rw[S8,hkD],by omega,fun t3 g3=>⟨_,k7 ac.2.2 g3,_,c5,AX ?_,fun t4 g4=> ?_⟩⟩
    ·rw[i5,i5,l0,l0]
     omega
    have ac4:=ac.cat (cs:=nb (keysOf ms fl).length) (d0 g3 _) g4
    have hfo4:=((d0 g3 (.lst ((nb (keysOf ms fl).length).map V.int))).trans (d0 g4 (.lst ((bs0++A8 fl++(E3 ms fl).flatten).map V.int++(nb (keysOf ms fl).length).map V.int)))) _ _ Fh
    generalize upd (upd M t3 (.lst ((nb (keysOf ms fl).length).map V.int))) t4 (.lst ((bs0++A8 fl++(E3 ms fl).flatten).map V.int++(nb (keysOf ms fl).length).map V.int))=M4 at ac4 hfo4⊢
    refine⟨_, .inl ⟨_, .inr fl, .inl (ac4.1 _ _ hb),rfl,hdg.symm⟩,da fl,rfl,_,ac4.1 _ _ hd,_,Z7,by rw[i5];omega,fun wo ys hwo OU Uu=> ?_⟩
    have ey:ys=keysOf ms fl:=by unfold keysOf;rw[hwD,Bw OU Uu (Z0 _)]
    subst ey
    have swo:=d0 hwo (.lst ((keysOf ms fl).map V.str))
    refine⟨⟨_,o6.of c5⟩,w6 ((keysOf ms fl).map V.str) (iP4 ml b fo wo ms fl (bs0++A8 fl++(E3 ms fl).flatten++nb (keysOf ms fl).length) H) ⟨t4,_,_,_,rfl,⟨ac4.1.trans swo,ac4.2.1,?_⟩,swo _ _ hfo4,c5⟩ ?_ ?_ ?_⟩
    ·rw[M6,List.flatten_nil,List.append_nil]
     exact swo _ _ ac4.2.2
    ·rintro j σ N hj ⟨p,v3,v4,v6,rfl,ac,_,hwo'⟩
     exact o6.of hwo'
    ·rintro j y σ N hy ⟨p,v3,v4,v6,rfl,ac,Fh,hwo'⟩
     obtain⟨wd,hk,rfl⟩:=Ai hy
     have hkm:=E7 hk
     have hbw:((keysOf ms fl).map (O6 ms fl))[j]? =some (O6 ms fl wd):=by rw[u8,hk];rfl
     have hle5:=D6 hbw
     have LY:(O6 ms fl wd).length=(A8 wd).length+(W4 (A1 ms fl wd)).length:=l0
     obtain⟨k1,k2⟩:=Ee ok hkm
     obtain⟨r,Rb⟩:∃r,get D wd=some r:=by
      have:=(C3 _).mem_iff.mp hkm
      rw[hwD] at this
      exact GJ.mp (T5.mpr this)
     have hrr:A1 ms fl wd=r:=by unfold A1;rw[hwD,Rb];rfl
     obtain⟨xs,Hv,hDx⟩:=OT wd r Rb
     have hdg2:C7 (P9 ra D) (.inr wd)=some (.ref (ra wd)):=by rw[E4,Rb];rfl
     generalize hC:bs0++A8 fl++(E3 ms fl).flatten++nb (keysOf ms fl).length++(((keysOf ms fl).map (O6 ms fl)).take j).flatten=cs0 at ac
     have hCl:cs0.length+(O6 ms fl wd).length<=16000000:=by rw[<-hC];simp only[l0];omega
     simpa only[Oe,↓Yk,Kt,↓DN]
     refine⟨by omega,OB k1,fun t5 L5 s5 ht5 htv5=>⟨_,s5 _ _ ac.2.2,_,htv5,AX ?_,fun t6 g6=> ?_⟩⟩
     ·rw[i5,i5]
      omega
     have ac6:=ac.cat (cs:=A8 wd) s5 g6
     have s56:=s5.trans (d0 g6 (.lst (cs0.map V.int++(A8 wd).map V.int)))
     generalize upd L5 t6 (.lst (cs0.map V.int++(A8 wd).map V.int))=N6 at ac6 s56⊢
     refine⟨_, .inl ⟨_, .inr fl, .inl (ac6.1 _ _ hb),rfl,hdg.symm⟩,da fl,rfl,_, .inl ⟨_, .inr wd, .inl (ac6.1 _ _ hd),rfl,hdg2.symm⟩,ra wd,rfl,xs,ac6.1 _ _ Hv,r,i3.same ac6.1 _ _ hDx,by rw[<-hrr];exact IX ok fl wd,fun t7 L7 s7 ht7 htv7=>⟨_,s7 _ _ ac6.2.2,_,htv7,AX ?_,fun t8 g8=>⟨t8,_,_,_,rfl,?_,?_,?_⟩⟩⟩
     ·rw[i5,i5,l0,<-hrr]
      omega
     ·have:=ac6.cat (cs:=W4 r) s7 g8
      rw[K3 hbw,<-o5,hC,show O6 ms fl wd=A8 wd++W4 (A1 ms fl wd) from rfl,hrr,<-o5]
      exact this
     ·exact(s56.trans (s7.trans (d0 g8 _))) _ _ Fh
     ·exact(s56.trans (s7.trans (d0 g8 _))) _ _ hwo'
    ·rintro σ N ⟨p,v3,v4,v6,rfl,ac,Fh,hwo'⟩
     rw[i5,Y0 (by rw[i5];exact l9 _)] at ac
     refine⟨p,_,_,_,_,rfl,?_,Fh⟩
     rw[K3 hbt,<-o5,hB0,show K7 ms fl=A8 fl++(E3 ms fl).flatten++nb (keysOf ms fl).length++((keysOf ms fl).map (O6 ms fl)).flatten from rfl]
     simp only[<-o5]
     exact ac
  ·rintro σ L ⟨p,v3,v4,v5,v6,rfl,ac,Fh⟩
   simpa only[l8]
   rw[i5,Y0 (by rw[i5];exact l9 _)] at ac
   exact q p L ac.1 ac.2.1 ac.2.2
theorem Og(t:List Nat)(h:∀c∈t,c≠100/\c≠68):∀n,(∀c∈(scan t n).2,c≠100)/\∀x∈(scan t n).1,∀c∈x.1,c≠100
 |0=>⟨fun c hc=>(by cases hc),fun x hx=>(by cases hx)⟩
 |n+1=>by
  obtain⟨h1,h2⟩:=Og t h n
  rw[scan]
  by_cases hw:Py t[n]? =true
  ·cases e:t[n]? with
   |none=>rw[e] at hw;cases hw
   |some c=>
    rw[e] at hw
    rw[Cd hw]
    refine⟨fun d hd=> ?_,h2⟩
    rcases U3.mp hd with hd|hd
    ·exact h1 d hd
    ·rw[D4.mp hd]
     have:=h c (E7 e)
     unfold sm
     split<;>omega
  ·rw[Ar (by simpa using hw)]
   split
   ·exact⟨h1,h2⟩
   ·refine⟨fun c hc=>(by cases hc),fun x hx=> ?_⟩
    rcases U3.mp hx with hx|hx
    ·exact h2 x hx
    ·rw[D4.mp hx];exact h1
theorem QaV{ms:List Mk}(h:Ok ms)(f:Str):A1 ms f "odd"=[]:=by
 refine CF fun z=> ?_
 obtain⟨m,hm,hw⟩:=(CV h.2.1).mp (Cv.mpr z)
 unfold Dj A7 at hw
 obtain⟨x,hx,e⟩:=y9.mp hw
 have hg:∀c∈((get m.2 f).getD "").cps.toList,c≠100/\c≠68:=by
  cases e:get m.2 f with
  |none=>intro c hc;cases hc
  |some t=>
   obtain⟨nm,_,h2⟩:=h.2.2.2.2
   exact(h2 m hm _ (G8 e)).2
 have h1:=(Og _ hg _).2 x hx
 have e2:x.1=("odd":Str).cps.toList:=by rw[<-e]
 exact h1 100 (by rw[e2];decide+kernel) rfl
theorem Bm{H:Hp}:∀l:List Str,i3 H (l.map DV.str) (l.map V.str)
 |[]=>i3.nil
 |x::l=>by
  rw[List.map_cons,List.map_cons,i3]
  exact⟨_,_,rfl,by rw[n8],Bm l⟩
theorem O0{H:Hp}{a:Addr}{ds:List DV}{xs:List V}(h:H a=some (.lst xs))(d:i3 H ds xs):n8 H (.lst ds) (.ref a):=by
 rw[n8]
 exact⟨a,xs,rfl,h,d⟩
theorem Ek(l:List Int):Hg (.lst (l.map DV.int))<4:=by rw[Hg,Ij];decide
theorem Ly(l:List Str):Hg (.lst (l.map DV.str))<4:=by
 have:AK (l.map DV.str)<=0:=Fy fun d hd=>by
  obtain⟨x,_,rfl⟩:=y9.mp hd
  simp [Hg]
 rw[Hg]
 omega
theorem US(r:Rw):Hg (.lst (r.map Df))<4:=by
 have:AK (r.map Df)<=2:=Fy fun d hd=>by
  obtain⟨x,_,rfl⟩:=y9.mp hd
  rw[Df,Hg,AK,AK,AK,Hg,Ij]
  simp [Hg]
 rw[Hg]
 omega
def HJ(C:Addr):Sp:=fun vs H Q _=>∃(x ml b:Addr) (ms:List Mk),vs=[.ref x, .ref ml, .ref b]/\AL C H x ms/\H ml=some (.lst ((ms.map (·.1)).map V.int))/\Rh H b (J5 [] ms)/\∀H',j9 H H'->Q (.bl true) H'
def RV{C:Addr}{v0:Addr}{v1:Addr}{v2:Addr}{H:Hp}{Q:VK}{E:XK}:=show HJ C [.ref v0, .ref v1, .ref v2] H Q E=_ by
 simpa only[HJ]
 rfl
theorem KI:FnScope ["_law_piece","_law_makes_here","_law_table_here","_law_field","_law_words_here","_law_word","_law_make"] ["_law_piece","_law_makes_here","_law_table_here"] (i7 ZN):=by ac_rfl
def iT1(x ml b fo:Addr)(fs:List Str)(H:Hp)(_:Nat)(σ:St)(L:Hp):Prop:=∃v3 v4 v5 v6:Option V,σ=[some (.ref x),some (.ref ml),some (.ref b),v3,v4,v5,v6]/\j9 H L/\L fo=some (.lst (fs.map V.str))
def iT2(x ml b d:Addr)(fl:Str)(H:Hp)(_:Nat)(σ:St)(L:Hp):Prop:=∃v5 v6:Option V,σ=[some (.ref x),some (.ref ml),some (.ref b),some (.str fl),some (.ref d),v5,v6]/\j9 H L
theorem Qaw{C g1 g2 g3 g4 g5 g6 g7:Addr}{d1 d2 d3 d4 d5 d6 d7:FuncData}(F:Fun K "_law_tells" "_law_tells" ZN f fd)(T:Txt mg)(cl:Cls K C)
  (mPM:Meth K C "makes" g1)(GPM:FnOk P w K mg bs0 x8 1 g1 d1 ["self"] (FM C))(bPM:Binds K d1 ["self"] [])(mPF:Meth K C "fields" g2)(GPF:FnOk P w K mg bs0 x8 1 g2 d2 ["self"] (IN C))(bPF:Binds K d2 ["self"] [])
  (mPW:Meth K C "words" g3)(GPW:FnOk P w K mg bs0 x8 1 g3 d3 ["self","field"] (IM C))(bPW:Binds K d3 ["self","field"] [])(mPP:Meth K C "postings" g4)(GPP:FnOk P w K mg bs0 x8 1 g4 d4 ["self","field","word"] (Hn C))(bPP:Binds K d4 ["self","field","word"] [])
  (mPL:Meth K C "length" g5)(GPL:FnOk P w K mg bs0 x8 1 g5 d5 ["self","make","field"] (Mu C))(bPL:Binds K d5 ["self","make","field"] [])
  (GA:FnOk P w K mg bs0 x8 4 g6 d6 ["_law_found","_law_due"] (T2 4))(bA:Binds K d6 ["_law_found","_law_due"] [])(kA:PySem.W.keepIn K (.ref g6)=true)(mA:mg "_law_alike"=some (.ref g6))
  (GLen:FnOk P w K mg bs0 x8 1 g7 d7 ["_law_table_here","_law_make","_law_field"] FN)(bLen:Binds K d7 ["_law_table_here","_law_make","_law_field"] [])(kLen:PySem.W.keepIn K (.ref g7)=true)(mLen:mg "_law_length"=some (.ref g7)):FnOk P w K mg bs0 x8 5 f fd ["_law_piece","_law_makes_here","_law_table_here"] (HJ C):=by
 refine F.ok KI (fun vs H Q E h=> ?_) (fun H9 A outer s H vs Q E hr h=> ?_)
 ·obtain⟨x,ml,b,ms,rfl,_⟩:=h
  rfl
 obtain⟨x,ml,b,ms,rfl,Kc,OW,UC,q⟩:=h
 have hr1:Room 1 _:=hr.mono (by decide)
 have ok:=Kc.ok
 obtain⟨da,hb,hf⟩:=id UC
 have Da:∀{M:Hp},j9 H M->AL C M x ms:=fun s=>Kc.same s
 have Ep:∀{M:Hp},j9 H M->∃dx N B om,M x=some (.ins C dx (QX N B om)):=fun s=>by
  obtain⟨_,dx,om,B,N,_,_,h1,_⟩:=Da s
  exact⟨dx,N,B,om,h1⟩
 have hf4:=Cy ok
 have h200:=ok.1.1
 have hfe:(J5 [] ms).length=(j7 ms).length:=by unfold j7;rw[(C3 _).length_eq,i5]
 have hmE:(ms.map fun m=>V.int m.1)=(ms.map (·.1)).map V.int:=by rw[K8];rfl
 refine⟨_,(c6 (C4 (PW.pt (Bp (Q7 (Q6 (i9 GA hr rfl mA kA bA .nil j3 (c4 (A6 (i6 0) cl mPM GPM hr1 bPM .nil j3) (c4 (i6 1) c8))))) (Aw (Q7 (Q6 (i9 GA hr rfl mA kA bA .nil j3 (c4 (A6 (i6 0) cl mPF GPF hr1 bPF .nil j3) (c4 (j6 (K0) rfl T.sorted (by decide+kernel) (c4 (i6 2) c8)) c8)))))))) (e7 (l6 Ay)) o7)
  (c6 (x9 o8 rfl (r9 K (k8 Y7 (j6 (K0) rfl T.sorted (by decide+kernel) (c4 (i6 2) c8)) (B4 (c4 A5 c8)))) (j5 (i:=3) KI.nd rfl (Or.inl rfl))
   (c6 (i8 (i:=4) KI.nd rfl (Or.inl rfl) (Ax (T4 hr) (i6 2) (i6 3) R7 ⟨rfl,rfl,rfl,rfl⟩))
  (c6 (C4 (PW.pt (Bp (Q7 (Q6 (i9 GA hr rfl mA kA bA .nil j3 (c4 (X6 (i6 0) cl mPW GPW hr1 bPW .nil j3 (c4 (i6 3) c8)) (c4 (j6 (K0) rfl T.sorted (by decide+kernel) (c4 (i6 4) c8)) c8))))) (Aw (o4 (Tu K hr1) (X6 (i6 0) cl mPP GPP hr1 bPP .nil j3 (c4 (i6 3) (c4 A5 c8))) (B4 c8) (q5 _))))) (e7 (l6 Ay)) o7)
  (c6 (x9 o8 rfl (r9 K (j6 (K0) rfl T.sorted (by decide+kernel) (c4 (i6 4) c8))) (j5 (i:=5) KI.nd rfl (Or.inl rfl))
   (e7 (C4 (Q7 (Q6 (i9 GA hr rfl mA kA bA .nil j3 (c4 (X6 (i6 0) cl mPP GPP hr1 bPP .nil j3 (c4 (i6 3) (c4 (i6 5) c8))) (c4 (Z1 (T4 hr) (i6 4) (i6 5) (fun _ _=>rfl)) c8))))) (e7 (l6 Ay)) o7)))
  (e7 (x9 o8 rfl (r9 K (k8 Y7 (i6 1) (B4 (c4 (k8 Qau j0 j0) c8)))) (j5 (i:=6) KI.nd rfl (Or.inl rfl))
   (e7 (C4 (Q7 (Q6 (i9 GA hr rfl mA kA bA .nil j3 (c4 (X6 (i6 0) cl mPL GPL hr1 bPL .nil j3 (c4 (i6 6) (c4 (i6 3) c8))) (c4 (i9 GLen hr1 rfl mLen kLen bLen .nil j3 (c4 (i6 2) (c4 (i6 6) (c4 (i6 3) c8)))) c8))))) (e7 (l6 Ay)) o7))))))))
  (e7 (l6 Ay)))),?_⟩
 and_intros
 simpa only[↓Ob,FM,↓Sd,IN,T2,↓C8]
 obtain⟨dx1,N1,B1,om1,hx1⟩:=Ep (j9.refl H)
 refine⟨dx1,_,hx1,rfl,ms,Kc,fun r1 H1 s1 hr1' hrv1=>⟨.lst ((ms.map (·.1)).map DV.int),O0 hrv1 (by rw[hmE];exact i3.ints _),O0 (s1 _ _ OW) (i3.ints _),FZ (by rw[i5];omega),Ek _,?_⟩⟩
 obtain⟨dx2,N2,B2,om2,hx2⟩:=Ep s1
 refine Bb ⟨dx2,_,hx2,rfl,ms,Da s1,fun r2 H2 s2 hr2' hrv2=> ?_⟩
 have s12:=s1.trans s2
 refine⟨_,s12 _ _ hb,_,Z7,by rw[i5];omega,fun r3 ys hr3' OU Uu=> ?_⟩
 have ey:ys=j7 ms:=by unfold j7;rw[Bw OU Uu (Z0 _)]
 subst ey
 have s3:=s12.trans (d0 hr3' (.lst ((j7 ms).map V.str)))
 refine⟨.lst ((j7 ms).map DV.str),O0 (k7 hrv2 hr3') (Bm _),O0 c5 (Bm _),KR (by omega),Ly _,Bb ?_⟩
 generalize upd H2 r3 (.lst ((j7 ms).map V.str))=H3 at s3⊢
 refine⟨_,s3 _ _ hb,_,Z7,by rw[i5];omega,fun r4 ys hr4' OU Uu=> ?_⟩
 have ey:ys=j7 ms:=by unfold j7;rw[Bw OU Uu (Z0 _)]
 subst ey
 have s4:=s3.trans (d0 hr4' (.lst ((j7 ms).map V.str)))
 have hv4:(upd H3 r4 (.lst ((j7 ms).map V.str))) r4=some (.lst ((j7 ms).map V.str)):=c5
 generalize upd H3 r4 (.lst ((j7 ms).map V.str))=H4 at s4 hv4⊢
 refine⟨by decide,fun p5 hp5=>⟨_,k7 hv4 hp5,_,c5,AX (by rw[i5,Aa];omega),fun fo DH=> ?_⟩⟩
 have s5:=s4.trans ((d0 hp5 (.lst [V.str "odd"])).trans (d0 DH (.lst ((j7 ms).map V.str++[V.str "odd"]))))
 have eo:(j7 ms).map V.str++[V.str "odd"]=(j7 ms++[("odd":Str)]).map V.str:=by rw[n4];rfl
 rw[eo] at s5⊢
 have hfv:(upd (upd H4 p5 (.lst [V.str "odd"])) fo (.lst ((j7 ms++[("odd":Str)]).map V.str))) fo=some (.lst ((j7 ms++[("odd":Str)]).map V.str)):=c5
 generalize upd (upd H4 p5 (.lst [V.str "odd"])) fo (.lst ((j7 ms++[("odd":Str)]).map V.str))=H5 at s5 hfv⊢
 refine⟨⟨_,o6.of hfv⟩,w6 ((j7 ms++[("odd":Str)]).map V.str) (iT1 x ml b fo (j7 ms++[("odd":Str)]) H) ⟨_,_,_,_,rfl,s5,hfv⟩ ?_ ?_ ?_⟩
 ·rintro i σ L hi ⟨v3,v4,v5,v6,rfl,sL,hfL⟩
  exact o6.of hfL
 ·rintro i y σ L hy ⟨v3,v4,v5,v6,rfl,sL,hfL⟩
  obtain⟨fl,Eh,rfl⟩:=Ai hy
  simpa only[↓Sb,IM,↓Oa,Hn,T2,↓C8,↓Dk,↓Y5]
  refine⟨.inl ⟨_, .inl (sL _ _ hb)⟩,fun p hp=> ?_⟩
  have sp:=d0 hp (.dK [])
  refine⟨_,BO.k (k:= .inr fl) (sp _ _ (sL _ _ hb)),?_⟩
  rw[E4]
  obtain⟨d,ra,D,ed,hd0,OT,hD⟩:∃(d:Addr) (ra:Str->Addr) (D:Wt Str),(Option.map (fun _=>V.ref (da fl)) (get (J5 [] ms) fl)).getD (V.ref p)= .ref d/\(upd L p (.dK [])) d=some (.dK (P9 ra D))/\(∀w r,get D w=some r->∃xs,H (ra w)=some (.lst xs)/\i3 H (r.map Df) xs)/\U8 ms fl=D:=by
   unfold U8
   cases e:get (J5 [] ms) fl with
   |none=>exact⟨p,fun _=>0,[],rfl,c5,fun w r e=>(by cases e),rfl⟩
   |some D=>
    obtain⟨ra,h1,h2⟩:=hf fl D e
    exact⟨da fl,ra,D,rfl,sp _ _ (sL _ _ h1),h2,rfl⟩
  rw[ed]
  have sL1:=sL.trans sp
  have hfL1:=sp _ _ hfL
  generalize upd L p (.dK [])=L1 at hd0 sL1 hfL1⊢
  have hkf:=Cw ok fl
  have hkD:D.length=(keysOf ms fl).length:=by unfold keysOf;rw[(C3 _).length_eq,i5,hD]
  obtain⟨dx5,N5,B5,om5,hx5⟩:=Ep sL1
  refine⟨dx5,_,hx5,rfl,ms,Da sL1,fun r6 L6 s6 hr6 hrv6=>⟨d,rfl,_,s6 _ _ hd0,_,Z7,by rw[i5];omega,fun r7 ys hr7 OU Uu=> ?_⟩⟩
  have ey:ys=keysOf ms fl:=by unfold keysOf;rw[hD,Bw OU Uu (Z0 _)]
  subst ey
  have s7:=s6.trans (d0 hr7 (.lst ((keysOf ms fl).map V.str)))
  refine⟨.lst ((keysOf ms fl).map DV.str),O0 (k7 hrv6 hr7) (Bm _),O0 c5 (Bm _),KR (by omega),Ly _,Bb ?_⟩
  have hd7:=s7 _ _ hd0
  have sL7:=sL1.trans s7
  have hfL7:=s7 _ _ hfL1
  generalize upd L6 r7 (.lst ((keysOf ms fl).map V.str))=L7 at hd7 sL7 hfL7⊢
  obtain⟨dx8,N8,B8,om8,hx8⟩:=Ep sL7
  refine⟨dx8,_,hx8,rfl,ms,Da sL7,fun r8 xs8 L8 s8 hr8 hrv8 hD8=> ?_⟩
  rw[QaV ok fl,List.map_nil,i3] at hD8
  subst hD8
  refine⟨x5 _,fun p9 hp9=>⟨_,o6.of (k7 hrv8 hp9),o6.of c5,Bb ⟨d,rfl,?_⟩⟩⟩
  have s9:=s8.trans (d0 hp9 (.lst []))
  have hd9:=s9 _ _ hd7
  have sL9:=sL7.trans s9
  have hfL9:=s9 _ _ hfL7
  generalize upd L8 p9 (.lst [])=L9 at hd9 sL9 hfL9⊢
  refine⟨_,hd9,_,Z7,by rw[i5];omega,fun wo ys hwo OU Uu=> ?_⟩
  have ey:ys=keysOf ms fl:=by unfold keysOf;rw[hD,Bw OU Uu (Z0 _)]
  subst ey
  have s10:=d0 hwo (.lst ((keysOf ms fl).map V.str))
  have hd10:=s10 _ _ hd9
  have sM:=sL9.trans s10
  have hfM:=s10 _ _ hfL9
  have hwM:(upd L9 wo (.lst ((keysOf ms fl).map V.str))) wo=some (.lst ((keysOf ms fl).map V.str)):=c5
  generalize upd L9 wo (.lst ((keysOf ms fl).map V.str))=M at hd10 sM hfM hwM⊢
  refine⟨⟨_,o6.of hwM⟩,w6 ((keysOf ms fl).map V.str) (iT2 x ml b d fl M) ⟨_,_,rfl,j9.refl _⟩ ?_ ?_ ?_⟩
  ·rintro j σ N hj ⟨v5,v6,rfl,sN⟩
   exact o6.of (sN _ _ hwM)
  ·rintro j y σ N hy ⟨v5,v6,rfl,sN⟩
   obtain⟨wd,hk,rfl⟩:=Ai hy
   have hkm:=E7 hk
   obtain⟨r,Rb⟩:∃r,get D wd=some r:=by
    have:=(C3 _).mem_iff.mp hkm
    rw[hD] at this
    exact GJ.mp (T5.mpr this)
   have hrr:A1 ms fl wd=r:=by unfold A1;rw[hD,Rb];rfl
   obtain⟨xs,Hv,hDx⟩:=OT wd r Rb
   have hdg2:C7 (P9 ra D) (.inr wd)=some (.ref (ra wd)):=by rw[E4,Rb];rfl
   have hbd:=DX ok fl wd
   rw[hrr] at hbd
   have sHN:=sM.trans sN
   simpa only[↓Oa,Hn,T2,↓C8,↓DN]
   obtain⟨dx9,N9,B9,om9,hx9⟩:=Ep sHN
   refine⟨dx9,_,hx9,rfl,ms,Da sHN,fun r11 xs11 N1 s11 hr11 hrv11 hD11=> ?_⟩
   rw[hrr] at hD11
   have sHN1:=sHN.trans s11
   refine⟨_, .inl ⟨_, .inr wd, .inl (s11 _ _ (sN _ _ hd10)),rfl,hdg2.symm⟩, .lst (r.map Df),O0 hrv11 (i3.same ((At _ _).trans Am) _ _ hD11),O0 (sHN1 _ _ Hv) (i3.same sHN1 _ _ hDx),TN (by omega) (fun q hq=>by have:=(hbd.2 q hq).2.1;omega),US _,Bb ⟨_,_,rfl,sN.trans s11⟩⟩
  ·rintro σ N ⟨v5,v6,rfl,sN⟩
   have sHN:=sM.trans sN
   simpa only[l8]
   refine⟨⟨by decide,by decide,by decide⟩,by decide,fun p12 hp12=>⟨_,k7 (sHN _ _ OW) hp12,_,c5,T9 (by rw[i5,i5,Aa];omega),fun mo hmo=> ?_⟩⟩
   have em:(ms.map (·.1)).map V.int++[V.int (10^Int.toNat 50)]=(ms.map (·.1)++[(10:Int)^Int.toNat 50]).map V.int:=by rw[n4];rfl
   rw[em]
   have s13:=(d0 hp12 (.lst [V.int (10^Int.toNat 50)])).trans (d0 hmo (.lst ((ms.map (·.1)++[(10:Int)^Int.toNat 50]).map V.int)))
   have Xq:(upd (upd N p12 (.lst [V.int (10^Int.toNat 50)])) mo (.lst ((ms.map (·.1)++[(10:Int)^Int.toNat 50]).map V.int))) mo=some (.lst ((ms.map (·.1)++[(10:Int)^Int.toNat 50]).map V.int)):=c5
   generalize upd (upd N p12 (.lst [V.int (10^Int.toNat 50)])) mo (.lst ((ms.map (·.1)++[(10:Int)^Int.toNat 50]).map V.int))=N3 at s13 Xq⊢
   have sN3:=sHN.trans s13
   have hfN3:=(sN.trans s13) _ _ hfM
   refine⟨⟨_,o6.of Xq⟩,w6 ((ms.map (·.1)++[(10:Int)^Int.toNat 50]).map V.int) (iT2 x ml b d fl N3) ⟨_,_,rfl,j9.refl _⟩ ?_ ?_ ?_⟩
   ·rintro j σ O hj ⟨v5,v6,rfl,sO⟩
    exact o6.of (sO _ _ Xq)
   ·rintro j y σ O hy ⟨v5,v6,rfl,sO⟩
    obtain⟨mk,hk,rfl⟩:=AR hy
    have sHO:=sN3.trans sO
    simpa only[↓Yl,Mu,↓Sj,FN,T2,↓C8]
    obtain⟨dx9,N9,B9,om9,hx9⟩:=Ep sHO
    refine⟨dx9,_,hx9,rfl,ms,Da sHO,fun O1 s14=>⟨ms,UC.same (sHO.trans s14),ok,fun O2 s15=> ?_⟩⟩
    rw[Uc ok.2.1]
    exact⟨.int (U7 ms mk fl),by rw[n8],by rw[n8],rfl,by simp [Hg],Bb ⟨_,_,rfl,sO.trans (s14.trans s15)⟩⟩
   ·rintro σ O ⟨v5,v6,rfl,sO⟩
    exact⟨_,_,_,_,rfl,sN3.trans sO,sO _ _ hfN3⟩
 ·rintro σ L ⟨v3,v4,v5,v6,rfl,sL,hfL⟩
  simpa only[l8]
  exact q L sL
def Od(K:n9):Sp:=fun vs H Q _=>∃(a:Addr) (ns:List Int),vs=[.ref a]/\o6 K H a (ns.map V.int)/\ns.length<=63/\∀H',Q (.bl true) H'
def TL(N:Hp)(PM:Addr)(VW:List V)(n:Nat)(L:Hp):Prop:=j9 N L/\L PM=some (.lst VW)/\∀v∈VW,∃(a b:Addr) (m:Int) (ps:List V),v= .ref a/\L a=some (.tup [.int m, .ref b])/\N b=none/\b≠PM/\L b=some (.lst ps)/\ps.length<=n
theorem TL.step{N L:Hp}{PM b:Addr}{VW ps:List V}{n:Nat}(h:TL N PM VW n L)(hN:N b=none)(ht:b≠PM)(hb:L b=some (.lst ps))(hl:ps.length<=n)(v:V):TL N PM VW (n+1) (upd L b (.lst (ps++[v]))):=by
 refine⟨h.1.newer hN _,by rw[i4 ht.symm];exact h.2.1,fun w hw=> ?_⟩
 obtain⟨a',b',m,ps',rfl,h1,h2,h3,h4,h5⟩:=h.2.2 w hw
 have Wc:a'≠b:=AO h1 hb (by intro z;cases z)
 by_cases e:b'=b
 ·exact⟨a',b',m,ps++[v],rfl,by rw[i4 Wc];exact h1,h2,h3,by rw[e,c5],by rw[l0,Aa];omega⟩
 ·exact⟨a',b',m,ps',rfl,by rw[i4 Wc];exact h1,h2,h3,by rw[i4 e];exact h4,by omega⟩
theorem Pg(ds:List FC)(lo hi:Option Int):JD (ds.map dI) lo hi=(Z8 ds lo hi).map dI:=by
 unfold JD Z8
 rw[i5,JJ,Np]
theorem P1{a b:TS}{D:Ends}{σ:St}{H:Hp}(Iv:St->Hp->Prop)(hb:∀σ' H',Iv σ' H'->b D σ' H')(ha:∀N:St->Hp->Prop,(∀σ' H',Iv σ' H'->N σ' H')->a {D with nx:=N} σ H):Wm a b D σ H:=ha _ hb
abbrev BR(a dr nm mk tb nu du pc:Option V)(v8 v9 v10 v11 v12 v13 v14:Option V):St:=[a,dr,nm,mk,tb,nu,du,pc,v8,v9,v10,v11,v12,v13,v14]
theorem LU:FnScope ["_law_script","_law_draws_here","_law_names_here","_law_makes_here","_law_table_here","_law_numbers","_law_due","_law_piece","_law_turn","_law_found","_law_told","_law_field","_law_word","_law_make","_law_places"] ["_law_script"] (i7 Hs):=by ac_rfl
theorem QaM{C gi g1 g2 g3 g4 g5 g6 g7 g8 g9 h1 h2 h3 h4 h5 h6:Addr}{di d1 d2 d3 d4 d5 d6 d7 d8 d9 e1 e2 e3 e4 e5 e6:FuncData}(F:Fun K "law" "law" Hs f fd)(T:Txt mg)(cl:Cls K C)(mkP:L2.Mk K C gi)(mPc:mg "Piece"=some (.ref C))(GIn:FnOk P w K mg bs0 x8 6 gi di ["self","makes"] (Dl C))(bIn:Binds K di ["self","makes"] [])
  (mPM:Meth K C "makes" g1)(GPM:FnOk P w K mg bs0 x8 1 g1 d1 ["self"] (FM C))(bPM:Binds K d1 ["self"] [])(mPF:Meth K C "fields" g2)(GPF:FnOk P w K mg bs0 x8 1 g2 d2 ["self"] (IN C))(bPF:Binds K d2 ["self"] [])
  (mPW:Meth K C "words" g3)(GPW:FnOk P w K mg bs0 x8 1 g3 d3 ["self","field"] (IM C))(bPW:Binds K d3 ["self","field"] [])(mPP:Meth K C "postings" g4)(GPP:FnOk P w K mg bs0 x8 1 g4 d4 ["self","field","word"] (Hn C))(bPP:Binds K d4 ["self","field","word"] [])
  (GD:FnOk P w K mg bs0 x8 1 g5 d5 ["_law_script","_law_turn","_law_many"] (DS K))(bD:Binds K d5 ["_law_script","_law_turn","_law_many"] [])(kD:PySem.W.keepIn K (.ref g5)=true)(mD:mg "_law_draws"=some (.ref g5))
  (GNm:FnOk P w K mg bs0 x8 2 g6 d6 ["_law_draws_here"] Ku)(bNm:Binds K d6 ["_law_draws_here"] [])(kNm:PySem.W.keepIn K (.ref g6)=true)(mNm:mg "_law_names"=some (.ref g6))
  (GP:FnOk P w K mg bs0 x8 1 g7 d7 ["_law_draws_here"] W0)(bP:Binds K d7 ["_law_draws_here"] [])(kP:PySem.W.keepIn K (.ref g7)=true)(mP:mg "_law_pop"=some (.ref g7))
  (GMk:FnOk P w K mg bs0 x8 3 g8 d8 ["_law_draws_here","_law_names_here","_law_many","_law_most"] Kx)(bMk:Binds K d8 ["_law_draws_here","_law_names_here","_law_many","_law_most"] [])(kMk:PySem.W.keepIn K (.ref g8)=true)(mMk:mg "_law_makes"=some (.ref g8))
  (GLg:FnOk P w K mg bs0 x8 2 g9 d9 ["_law_draws_here"] DR)(bLg:Binds K d9 ["_law_draws_here"] [])(kLg:PySem.W.keepIn K (.ref g9)=true)(mLg:mg "_law_large"=some (.ref g9))
  (GTab:FnOk P w K mg bs0 x8 2 h1 e1 ["_law_makes_here"] Kq)(bTab:Binds K e1 ["_law_makes_here"] [])(kTab:PySem.W.keepIn K (.ref h1)=true)(mTab:mg "_law_table"=some (.ref h1))
  (GLPcb:FnOk P w K mg bs0 x8 3 h2 e2 ["_law_makes_here","_law_table_here"] FO)(bLPcb:Binds K e2 ["_law_makes_here","_law_table_here"] [])(kLPcb:PySem.W.keepIn K (.ref h2)=true)(mLPcb:mg "_law_piece_bytes"=some (.ref h2))
  (GPcb:FnOk P w K mg bs0 x8 5 h3 e3 ["piece"] (HK C))(bPcb:Binds K e3 ["piece"] [])(kPcb:PySem.W.keepIn K (.ref h3)=true)(mPcb:mg "piece_bytes"=some (.ref h3))
  (GA:FnOk P w K mg bs0 x8 4 h4 e4 ["_law_found","_law_due"] (T2 4))(bA:Binds K e4 ["_law_found","_law_due"] [])(kA:PySem.W.keepIn K (.ref h4)=true)(mA:mg "_law_alike"=some (.ref h4))
  (GRPc:FnOk P w K mg bs0 x8 10 h5 e5 ["row"] (Kr C))(bRPc:Binds K e5 ["row"] [])(kRPc:PySem.W.keepIn K (.ref h5)=true)(mRPc:mg "read_piece"=some (.ref h5))
  (GTe:FnOk P w K mg bs0 x8 5 h6 e6 ["_law_piece","_law_makes_here","_law_table_here"] (HJ C))(bTe:Binds K e6 ["_law_piece","_law_makes_here","_law_table_here"] [])(kTe:PySem.W.keepIn K (.ref h6)=true)(mTe:mg "_law_tells"=some (.ref h6)):FnOkL P w K mg bs0 x8 11 f fd ["_law_script"] (Od K):=by
 refine F.okL LU (fun vs H Q E h=> ?_) (fun H9 A outer s H vs Q E hr h=> ?_)
 ·obtain⟨a,ns,rfl,_⟩:=h
  rfl
 obtain⟨a,ns,rfl,hS,E2,q⟩:=h
 have hr1:Room 1 _:=hr.mono (by decide)
 have hr2:Room 2 _:=hr.mono (by decide)
 have hr3:Room 3 _:=hr.mono (by decide)
 have hr4:Room 4 _:=hr.mono (by decide)
 have hr5:Room 5 _:=hr.mono (by decide)
 have hr7:Room 7 _:=hr.mono (by decide)
 refine⟨_,(Qe (Qh (i:=1) (iy:=0) GD hr1 rfl mD kD bD j3 LU.nd rfl (Or.inl rfl) rfl rfl)
  (c6 (i8 (i:=2) LU.nd rfl (Or.inl rfl) (i9 GNm hr2 rfl mNm kNm bNm .nil j3 (c4 (i6 1) c8)))
  (c6 (i8 (i:=3) LU.nd rfl (Or.inl rfl) (i9 GMk hr3 rfl mMk kMk bMk .nil j3 (c4 (i6 1) (c4 (i6 2) (c4 (k8 E9 (i9 GP hr1 rfl mP kP bP .nil j3 (c4 (i6 1) c8)) j0) (c4 j0 c8))))))
  (c6 (C4 (o4 (Tu K hr1) (i9 GLg hr2 rfl mLg kLg bLg .nil j3 (c4 (Cq (slL K) (i6 1) IZ (BA j0)) c8)) (B4 c8) (q5 _)) (e7 (i8 (i:=3) LU.nd rfl (Or.inl rfl) (i9 GLg hr2 rfl mLg kLg bLg .nil j3 (c4 (Cq (slL K) (i6 1) IZ (BA j0)) c8)))) o7)
  (c6 (i8 (i:=4) LU.nd rfl (Or.inl rfl) (i9 GTab hr2 rfl mTab kTab bTab .nil j3 (c4 (i6 3) c8)))
  (c6 (Ow (i:=5) LU.nd rfl rfl (N:=["_law_make","_law_document_here"]) (pick:=[none,none]) (NX:=["_law_script","_law_draws_here","_law_names_here","_law_makes_here","_law_table_here","_law_numbers","_law_due","_law_piece","_law_turn","_law_found","_law_told","_law_field","_law_word","_law_make","_law_places"]) (sX:=i7 Hs) (by decide+kernel) rfl rfl rfl (r9 K (i6 3))
    (fun _ _ _ _=>(LW K (n:=2) rfl (o9 (j5 (i:=0) Qct rfl (Or.inl rfl)) (o9 (j5 (i:=1) Qct rfl (Or.inl rfl)) P2)))) (fun _ _ _ _=>R0) (fun _ _ _ _=>(i6 0)))
  (c6 (i8 (i:=6) LU.nd rfl (Or.inl rfl) (i9 GLPcb hr3 rfl mLPcb kLPcb bLPcb .nil j3 (c4 (i6 5) (c4 (i6 4) c8))))
  (c6 (i8 (i:=7) LU.nd rfl (Or.inl rfl) (Jf mkP GIn hr7 rfl mPc bIn .nil j3 (c4 (i6 3) c8)))
  (c6 (x9 o8 rfl (K4 rfl T.range (c4 j0 c8)) (j5 (i:=8) LU.nd rfl (Or.inl rfl))
   (c6 (i8 (i:=9) LU.nd rfl (Or.inl rfl) (i9 GPcb hr5 rfl mPcb kPcb bPcb .nil j3 (c4 (i6 7) c8)))
  (c6 (C4 (Q7 (Q6 (i9 GA hr4 rfl mA kA bA .nil j3 (c4 (i6 9) (c4 (i6 6) c8))))) (e7 (l6 Ay)) o7)
  (c6 (i8 (i:=10) LU.nd rfl (Or.inl rfl) (i9 GRPc hr rfl mRPc kRPc bRPc .nil j3 (c4 (i6 9) c8)))
  (c6 (C4 (PW.pt (Bp (o4 (OA K hr1) (i6 9) (i6 6) (q5 _)) (Bp (Q7 (Q6 (i9 GTe hr5 rfl mTe kTe bTe .nil j3 (c4 (i6 10) (c4 (i6 5) (c4 (i6 4) c8)))))) (Aw (o4 (OA K hr1) (i9 GPcb hr5 rfl mPcb kPcb bPcb .nil j3 (c4 (i6 10) c8)) (i6 6) (q5 _)))))) (e7 (l6 Ay)) o7)
  (c6 (q0 (Ca K B6 N0 M8 y8 (i6 9) (c4 j0 c8)))
  (c6 (q0 (Ca K B6 N0 M8 y8 (A6 (i6 10) cl mPM GPM hr1 bPM .nil j3) (c4 j0 c8)))
  (c6 (x9 o8 rfl (r9 K (A6 (i6 10) cl mPF GPF hr1 bPF .nil j3)) (j5 (i:=11) LU.nd rfl (Or.inl rfl))
   (e7 (x9 o8 rfl (r9 K (X6 (i6 10) cl mPW GPW hr1 bPW .nil j3 (c4 (i6 11) c8))) (j5 (i:=12) LU.nd rfl (Or.inl rfl))
   (e7 (x9 o8 rfl (r9 K (X6 (i6 10) cl mPP GPP hr1 bPP .nil j3 (c4 (i6 11) (c4 (i6 12) c8)))) (LW K (n:=2) rfl (o9 (j5 (i:=13) LU.nd rfl (Or.inl rfl)) (o9 (j5 (i:=14) LU.nd rfl (Or.inl rfl)) P2)))
   (e7 (q0 (Ca K B6 N0 M8 y8 (i6 14) (c4 j0 c8)))))))))
  (e7 (C4 (Q7 (Q6 (i9 GTe hr5 rfl mTe kTe bTe .nil j3 (c4 (i6 10) (c4 (i6 5) (c4 (i6 4) c8)))))) (e7 (l6 Ay)) o7))))))))))
  (e7 (l6 Ay))))))))))),?_⟩
 and_intros
 refine P1 (fun σ L=>∃(dr:Addr) (ds:List FC),σ=BR (some (.ref a)) (some (.ref dr)) none none none none none none none none none none none none none/\L dr=some (.lst (ds.map dI))) ?_ (fun N hN=> ?_)
 rotate_left
 ·simpa only[↓Sq,DS]
  exact⟨ns,hS,E2,by decide,by decide,by decide,by decide,fun r ds H' _ _ h3=>hN _ _ ⟨r,ds,rfl,h3⟩⟩
 rintro σ H1 ⟨dr,ds,rfl,hd1⟩
 refine P1 (fun σ L=>∃(nm:Addr) (ys:List Str) (ds:List FC),σ=BR (some (.ref a)) (some (.ref dr)) (some (.ref nm)) none none none none none none none none none none none none/\L dr=some (.lst (ds.map dI))/\L nm=some (.lst (ys.map V.str))/\nm≠dr/\IA ys) ?_ (fun N hN=> ?_)
 rotate_left
 ·simpa only[BR,↓Zx,Ku]
  exact⟨ds,hd1,fun r ys ns' H' m h2 h3 h4 h5=>hN _ _ ⟨r,ys,ns',rfl,h2,h4,(fun z=>by rw[z,hd1] at h3;cases h3),h5⟩⟩
 rintro σ H2 ⟨nm,ys,ds2,rfl,hd2,hnm2,nnd,Kb⟩
 refine P1 (fun σ L=>∃(mk:Addr) (ms:List Mk) (xs:List V) (ds:List FC),σ=BR (some (.ref a)) (some (.ref dr)) (some (.ref nm)) (some (.ref mk)) none none none none none none none none none none none/\L dr=some (.lst (ds.map dI))/\L mk=some (.lst xs)/\i3 L (ms.map QD) xs/\Ok ms) ?_ (fun N hN=> ?_)
 rotate_left
 ·simpa only[BR,↓ZA,Kx,↓By,W0]
  refine⟨ds2,hd2,fun z ds3 H3 m3 hd3=>⟨by decide,ds3,hd3,ys,m3.at_ hnm2 nnd,nnd,Kb,V3 _ (by decide),?_,by decide,by decide,fun r ms xs ns' H' m h2 h3 h4 h5 h6=>hN _ _ ⟨r,ms,xs,ns',rfl,h2,h4,i3.same Am _ _ h5,h6⟩⟩⟩
  have:=V2 z.1 (show (0:Int)<6 by decide)
  omega
 rintro σ H3 ⟨mk,ms,xs,ds3,rfl,hd3,hmk3,hD3,ok⟩
 refine P1 (fun σ L=>∃(mk:Addr) (ms:List Mk) (xs:List V),σ=BR (some (.ref a)) (some (.ref dr)) (some (.ref nm)) (some (.ref mk)) none none none none none none none none none none none/\L mk=some (.lst xs)/\i3 L (ms.map QD) xs/\Ok ms) ?_ (fun N hN=> ?_)
 rotate_left
 ·simpa only[BR,↓Sk,DR]
  refine⟨_,o6.of hd3,fun p hp=>⟨Z8 ds3 none (some 1),by rw[c5,Pg],fun r ms' xs' H' m' hr' hv' hD' ok'=>⟨x5 _,fun p2 hp2=>⟨_,o6.of (k7 hv' hp2),o6.of c5,?_⟩⟩⟩⟩
  have sp:=d0 hp (.lst (JD (ds3.map dI) none (some 1)))
  have sA:j9 H3 H':=fun b u e=>m'.at_ (sp _ _ e) (k9 e hp)
  have s3:=sA.trans (d0 hp2 (.lst []))
  refine O3 (fun _=> ?_) (fun _=>hN _ _ ⟨mk,ms,xs,rfl,s3 _ _ hmk3,i3.same s3 _ _ hD3,ok⟩)
  exact⟨_,o6.of (s3 _ _ hd3),fun p3 hp3=>⟨Z8 ds3 none (some 1),by rw[c5,Pg],fun r2 ms2 xs2 H'' m'' hr2 hv2 hD2 ok2=>hN _ _ ⟨r2,ms2,xs2,rfl,hv2,i3.same Am _ _ hD2,ok2⟩⟩⟩
 clear hmk3 hD3 ok
 rintro σ M ⟨mk,ms,xs,rfl,hmk,hD,ok⟩
 have De:xs.length=ms.length:=by have:=hD.length;rwa [i5] at this
 have h200:=ok.1.1
 refine P1 (fun σ L=>∃(b:Addr),σ=BR (some (.ref a)) (some (.ref dr)) (some (.ref nm)) (some (.ref mk)) (some (.ref b)) none none none none none none none none none none/\j9 M L/\Rh L b (J5 [] ms)) ?_ (fun N hN=> ?_)
 rotate_left
 ·simpa only[BR,↓Zu,Kq]
  exact⟨ms,xs,hmk,hD,ok,fun b H' s1 h2=>hN _ _ ⟨b,rfl,s1,h2.same Am⟩⟩
 rintro σ M1 ⟨b,rfl,sM1,hfat1⟩
 refine P1 (fun σ L=>∃(nu:Addr),σ=BR (some (.ref a)) (some (.ref dr)) (some (.ref nm)) (some (.ref mk)) (some (.ref b)) (some (.ref nu)) none none none none none none none none none/\j9 M1 L/\L nu=some (.lst ((ms.map (·.1)).map V.int))) ?_ (fun N hN=> ?_)
 rotate_left
 ·simpa only[BR]
  refine⟨⟨xs,o6.of (sM1 _ _ hmk)⟩,Y9 xs (fun i ys σ L=>∃v0 v1:Option V,σ=[v0,v1]/\L=M1/\ys=(ms.take i).map fun m=>V.int m.1) ⟨none,none,rfl,rfl,rfl⟩ ?_ ?_ ?_⟩
  ·rintro i ys σ L hi ⟨v0,v1,rfl,rfl,rfl⟩
   exact⟨o6.of (sM1 _ _ hmk),T9 (by rw[i5,I9];omega)⟩
  ·rintro i y ys σ L hy ⟨v0,v1,rfl,rfl,rfl⟩
   obtain⟨dv,z1,z2⟩:=hD.get hy
   rw[u8] at z1
   obtain⟨m,hm,rfl⟩:=D3.mp z1
   obtain⟨b9,c9,zs,rfl,hb9,_,_⟩:=Gv z2
   simpa only[l8]
   refine⟨_,AG.of (sM1 _ _ hb9),rfl,?_⟩
   simpa only[l8]
   rw[q9,hm,n4]
   rfl
  ·rintro ys σ L ⟨v0,v1,rfl,rfl,rfl⟩ nu hnu
   refine hN _ _ ⟨nu,rfl,d0 hnu _,?_⟩
   rw[c5,De,B7,K8]
   rfl
 rintro σ M2 ⟨nu,rfl,sM2,hnu2⟩
 refine P1 (fun σ L=>∃(du:Addr),σ=BR (some (.ref a)) (some (.ref dr)) (some (.ref nm)) (some (.ref mk)) (some (.ref b)) (some (.ref nu)) (some (.ref du)) none none none none none none none none/\j9 M2 L/\L du=some (.lst ((MJ ms).map V.int))) ?_ (fun N hN=> ?_)
 rotate_left
 ·simpa only[BR,↓Wq,FO]
  exact⟨ms,hnu2,hfat1.same sM2,ok,fun p H' z1 _ z3=>hN _ _ ⟨p,rfl,z1,z3⟩⟩
 rintro σ M3 ⟨du,rfl,sM3,hdu3⟩
 refine P1 (fun σ L=>∃(x:Addr),σ=BR (some (.ref a)) (some (.ref dr)) (some (.ref nm)) (some (.ref mk)) (some (.ref b)) (some (.ref nu)) (some (.ref du)) (some (.ref x)) none none none none none none none/\j9 M3 L/\AL C L x ms) ?_ (fun N hN=> ?_)
 rotate_left
 ·simpa only[BR,↓Of,Dl,↓Mm]
  have s03:=(sM1.trans sM2).trans sM3
  intro x dx hx hdx Ig
  exact⟨M3,((j9.refl _).newer hdx _).newer hx _,hx,dx,c5,ms,xs,s03 _ _ hmk,i3.same s03 _ _ hD,ok,fun M' H' Kc sM' _ sG=>hN _ _ ⟨x,rfl,sG,Kc.same sM'⟩⟩
 rintro σ B0 ⟨x,rfl,sB0,hpcB⟩
 have hduB:=sB0 _ _ hdu3
 have hnuB:=(sM3.trans sB0) _ _ hnu2
 have hfatB:=hfat1.same ((sM2.trans sM3).trans sB0)
 refine P1 (fun σ L=>True) ?_ (fun N hN=> ?_)
 rotate_left
 ·simp only[QbZ,QbU,↓QbG,↓QbF,↓gN0,↓gNS,↓XX,↓XW,↓XV,↓XU,↓XT,↓Ro,↓Rn,↓Rm,↓Rl,↓Ya,↓XZ,↓XY,↓Rs,↓Rr,↓Rq,↓XS,↓XR,↓XQ,↓Rk,↓Rj,↓Ri,↓Qbz,↓Qby,↓Qbx,↓Yd,↓Yc,↓Yb,↓Yg,↓Yf,↓Yh,↓Qcz,↓rI_,↓Qb3,↓rU_,↓Qb5,↓Qb4,↓Qb2,↓Qb1,↓Yx,↓Yw,↓Yv,↓Yu,↓UG,↓YM,↓RL,↓Zq,↓Zr,↓tOr,↓Zp,↓tB,IG,↓RD,↓tOp,↓tC,↓tUn,↓tCB,↓HG,↓Kl,QW,rI,rU,rNe,rEq,DZ,↓tBM,↓RJ,↓PP,BU,↓Zn,↓RG,List.set_cons_zero,List.set_cons_succ,List.getElem?_cons_zero,List.getElem?_cons_succ,Option.some.injEq,V.int.injEq,V.bl.injEq,V.ref.injEq,V.str.injEq,exists_eq_left',exists_eq_left,exists_and_left,List.cons.injEq,and_true,true_and,and_assoc,exists_const,L2.start,List.map_cons,List.map_nil,List.length_cons,List.length_nil,List.replicate_succ,List.replicate_zero,List.cons_append,List.nil_append,List.append_nil,Nat.reduceAdd,Nat.reduceSub,↓NU,↓Km,↓HF,↓Mn,Wo,ipI,↓Qal,↓Qaj,↓MF,↓MG,↓Qak,Tc,↓Wn,↓Qbk,↓SZ,↓tSl,↓RE,↓IH,↓WD,HH,↓RI,↓Wl,↓Ur,↓YI,↓YH,↓OQ,↓Ut,↓UF,Gq,Qy,Qd,Qc,↓Wj,↓RN,↓Zo,↓RF,↓tIf,exists_eq',List.ne_cons_self,reduceCtorEq,if_true,if_false,and_false,false_and,BR]
  have hlen16:=Jg ok
  refine⟨by decide,by decide,O8 (lo:=0) (fun _ σ L=>∃v8 v9 v10 v11 v12 v13 v14:Option V,σ=BR (some (.ref a)) (some (.ref dr)) (some (.ref nm)) (some (.ref mk)) (some (.ref b)) (some (.ref nu)) (some (.ref du)) (some (.ref x)) v8 v9 v10 v11 v12 v13 v14/\j9 B0 L) ⟨_,_,_,_,_,_,_,rfl,j9.refl _⟩ ?_ fun σ L _=>hN _ _ trivial⟩
  rintro i σ L0 hi ⟨v8,v9,v10,v11,v12,v13,v14,rfl,sL0⟩
  simp only[QbZ,QbU,↓QbG,↓QbF,↓gN0,↓gNS,↓XX,↓XW,↓XV,↓XU,↓XT,↓Ro,↓Rn,↓Rm,↓Rl,↓Ya,↓XZ,↓XY,↓Rs,↓Rr,↓Rq,↓XS,↓XR,↓XQ,↓Rk,↓Rj,↓Ri,↓Qbz,↓Qby,↓Qbx,↓Yd,↓Yc,↓Yb,↓Yg,↓Yf,↓Yh,↓Qcz,↓rI_,↓Qb3,↓rU_,↓Qb5,↓Qb4,↓Qb2,↓Qb1,↓Yx,↓Yw,↓Yv,↓Yu,↓UG,↓YM,↓RL,↓Zq,↓Zr,↓tOr,↓Zp,↓tB,IG,↓RD,↓tOp,↓tC,↓tUn,↓tCB,↓HG,↓Kl,QW,rI,rU,rNe,rEq,DZ,↓tBM,↓RJ,↓PP,BU,↓Zn,↓RG,List.set_cons_zero,List.set_cons_succ,List.getElem?_cons_zero,List.getElem?_cons_succ,Option.some.injEq,V.int.injEq,V.bl.injEq,V.ref.injEq,V.str.injEq,exists_eq_left',exists_eq_left,exists_and_left,List.cons.injEq,and_true,true_and,and_assoc,exists_const,L2.start,List.map_cons,List.map_nil,List.length_cons,List.length_nil,List.replicate_succ,List.replicate_zero,List.cons_append,List.nil_append,List.append_nil,Nat.reduceAdd,Nat.reduceSub,↓NU,↓Km,↓HF,↓Mn,Wo,ipI,↓Qal,↓Qaj,↓MF,↓MG,↓Qak,Tc,↓Wn,↓Qbk,↓SZ,↓tSl,↓RE,↓IH,↓WD,HH,↓RI,↓Wl,↓Ur,↓YI,↓YH,↓OQ,↓Ut,↓UF,Gq,Qy,Qd,Qc,↓Wj,↓RN,↓Zo,↓RF,↓tIf,exists_eq',List.ne_cons_self,reduceCtorEq,if_true,if_false,and_false,false_and,BR]
  refine P1 (fun σ L=>∃fo:Addr,σ=BR (some (.ref a)) (some (.ref dr)) (some (.ref nm)) (some (.ref mk)) (some (.ref b)) (some (.ref nu)) (some (.ref du)) (some (.ref x)) (some (.int (0+(i:Int)))) (some (.ref fo)) v10 v11 v12 v13 v14/\j9 L0 L/\L0 fo=none/\L fo=some (.lst ((MJ ms).map V.int))) ?_ (fun N hN=> ?_)
  rotate_left
  ·simpa only[↓Sa,HK]
   exact⟨ms,hpcB.same sL0,fun p H' z1 z2 z3=>hN _ _ ⟨p,rfl,z1,z2,z3⟩⟩
  rintro σ L1 ⟨fo,rfl,s01,hfo0,UB⟩
  have sB1:=sL0.trans s01
  have dvd:n8 L1 (.lst ((MJ ms).map DV.int)) (.ref fo):=O0 UB (i3.ints _)
  refine P1 (fun σ L=>σ=BR (some (.ref a)) (some (.ref dr)) (some (.ref nm)) (some (.ref mk)) (some (.ref b)) (some (.ref nu)) (some (.ref du)) (some (.ref x)) (some (.int (0+(i:Int)))) (some (.ref fo)) v10 v11 v12 v13 v14/\L1=L) ?_ (fun N hN=> ?_)
  rotate_left
  ·simpa only[BR,T2]
   exact⟨_,dvd,O0 (sB1 _ _ hduB) (i3.ints _),FZ hlen16,Ek _,Bb (hN _ _ ⟨rfl,rfl⟩)⟩
  rintro σ _ ⟨rfl,rfl⟩
  refine P1 (fun σ L=>∃(t:Addr) (Mt:Hp),σ=BR (some (.ref a)) (some (.ref dr)) (some (.ref nm)) (some (.ref mk)) (some (.ref b)) (some (.ref nu)) (some (.ref du)) (some (.ref x)) (some (.int (0+(i:Int)))) (some (.ref fo)) (some (.ref t)) v11 v12 v13 v14/\AL C Mt t ms/\j9 Mt L/\(∀b,L1 b≠none->Mt b=none)/\j9 L1 L) ?_ (fun N hN=> ?_)
  rotate_left
  ·simpa only[BR,↓Zv,Kr]
   exact⟨ms,ok,UB,fun x' M' H' z1 z2 z3 z4=>hN _ _ ⟨x',M',rfl,z1,z2,z3,z4⟩⟩
  rintro σ L2' ⟨t,Mt,rfl,Xp,sMt,hnew,s12⟩
  have hMfo:Mt fo=none:=hnew fo (by rw[UB];intro z;cases z)
  have hBfo:B0 fo=none:=sL0.free hfo0
  refine P1 (fun σ L=>σ=BR (some (.ref a)) (some (.ref dr)) (some (.ref nm)) (some (.ref mk)) (some (.ref b)) (some (.ref nu)) (some (.ref du)) (some (.ref x)) (some (.int (0+(i:Int)))) (some (.ref fo)) (some (.ref t)) v11 v12 v13 v14/\j9 L2' L) ?_ (fun N hN=> ?_)
  rotate_left
  ·simpa only[BR,↓RV,HJ,↓Sa,HK]
   have sB2:=sB1.trans s12
   refine⟨_,Dh (U4 (Ek _) (by decide)),n8.deep _ _ (O0 (s12 _ _ UB) (i3.ints (MJ ms))),n8.deep _ _ (O0 (sB2 _ _ hduB) (i3.ints _)),ms,Xp.same sMt,sB2 _ _ hnuB,hfatB.same sB2,fun H' z1=>Bb ⟨ms,Xp.same (sMt.trans z1),fun p H'' z2 z3 z4=> ?_⟩⟩
   exact⟨_,Dh (U4 (Ek _) (by decide)),n8.deep _ _ (O0 z4 (i3.ints (MJ ms))),n8.deep _ _ (O0 (((sB2.trans z1).trans z2) _ _ hduB) (i3.ints _)),hN _ _ ⟨rfl,z1.trans z2⟩⟩
  rintro σ L3 ⟨rfl,s23⟩
  have sB3:=(sB1.trans s12).trans s23
  have sM3':=sMt.trans s23
  refine P1 (fun σ L=>σ=BR (some (.ref a)) (some (.ref dr)) (some (.ref nm)) (some (.ref mk)) (some (.ref b)) (some (.ref nu)) (some (.ref du)) (some (.ref x)) (some (.int (0+(i:Int)))) (some (.ref fo)) (some (.ref t)) v11 v12 v13 v14/\j9 B0 L/\j9 Mt L) ?_ (fun N hN=> ?_)
  rotate_left
  ·simpa only[BR]
   have hf3:=s23 _ _ (s12 _ _ UB)
   exact⟨.inl ⟨rfl,_,o6.of hf3⟩,_,hf3,Ag (by rw[i5];exact hlen16),hN _ _ ⟨rfl,sB3.newer hBfo _,sM3'.newer hMfo _⟩⟩
  clear sB3 sM3' s23
  rintro σ L4 ⟨rfl,sB4,sM4⟩
  have Ep:∀{M:Hp},j9 Mt M->∃dx N B om,M t=some (.ins C dx (QX N B om)):=fun s=>by
   obtain⟨_,dx,om,B,N,_,_,h1,_⟩:=Xp.same s
   exact⟨dx,N,B,om,h1⟩
  refine P1 (fun σ L=>σ=BR (some (.ref a)) (some (.ref dr)) (some (.ref nm)) (some (.ref mk)) (some (.ref b)) (some (.ref nu)) (some (.ref du)) (some (.ref x)) (some (.int (0+(i:Int)))) (some (.ref fo)) (some (.ref t)) v11 v12 v13 v14/\j9 B0 L/\j9 Mt L) ?_ (fun N hN=> ?_)
  rotate_left
  ·simpa only[BR,↓Ob,FM,↓C8]
   obtain⟨dx1,N1,B1,om1,hx1⟩:=Ep sM4
   refine⟨dx1,_,hx1,rfl,ms,Xp.same sM4,fun r H' z1 z2 z3=>⟨.inl ⟨rfl,_,o6.of z3⟩,_,z3,P6 (by rw[i5];omega),hN _ _ ⟨rfl,(sB4.trans z1).newer (sB4.free z2) _,(sM4.trans z1).newer (sM4.free z2) _⟩⟩⟩
  clear sB4 sM4
  rintro σ L5 ⟨rfl,sB5,sM5⟩
  refine P1 (fun σ L=>∃v11 v12 v13 v14:Option V,σ=BR (some (.ref a)) (some (.ref dr)) (some (.ref nm)) (some (.ref mk)) (some (.ref b)) (some (.ref nu)) (some (.ref du)) (some (.ref x)) (some (.int (0+(i:Int)))) (some (.ref fo)) (some (.ref t)) v11 v12 v13 v14/\j9 L5 L) ?_ (fun N hN=> ?_)
  rotate_left
  ·simpa only[BR,↓Sd,IN,↓C8]
   obtain⟨dx1,N1,B1,om1,hx1⟩:=Ep sM5
   refine⟨dx1,_,hx1,rfl,ms,Xp.same sM5,fun r H6 z1 z2 z3=>⟨⟨_,o6.of z3⟩,w6 ((RS ((J5 [] ms).map (·.1))).map V.str) (fun _ σ L=>∃v11 v12 v13 v14:Option V,σ=BR (some (.ref a)) (some (.ref dr)) (some (.ref nm)) (some (.ref mk)) (some (.ref b)) (some (.ref nu)) (some (.ref du)) (some (.ref x)) (some (.int (0+(i:Int)))) (some (.ref fo)) (some (.ref t)) v11 v12 v13 v14/\j9 H6 L) ⟨_,_,_,_,rfl,j9.refl _⟩ ?_ ?_ ?_⟩⟩
   ·rintro j σ L hj ⟨v11,v12,v13,v14,rfl,sL⟩
    exact o6.of (sL _ _ z3)
   ·rintro j y σ L hy ⟨v11,v12,v13,v14,rfl,sL⟩
    obtain⟨fl,_,rfl⟩:=Ai hy
    have sM6:=(sM5.trans z1).trans sL
    simpa only[BR,↓Sb,IM,↓C8]
    obtain⟨dx2,N2,B2,om2,hx2⟩:=Ep sM6
    refine⟨dx2,_,hx2,rfl,ms,Xp.same sM6,fun r7 H7 w1 w2 w3=>⟨⟨_,o6.of w3⟩,w6 ((RS ((U8 ms fl).map (·.1))).map V.str) (fun _ σ L=>∃v12 v13 v14:Option V,σ=BR (some (.ref a)) (some (.ref dr)) (some (.ref nm)) (some (.ref mk)) (some (.ref b)) (some (.ref nu)) (some (.ref du)) (some (.ref x)) (some (.int (0+(i:Int)))) (some (.ref fo)) (some (.ref t)) (some (.str fl)) v12 v13 v14/\j9 H7 L) ⟨_,_,_,rfl,j9.refl _⟩ ?_ ?_ ?_⟩⟩
    ·rintro k σ L hk ⟨v12,v13,v14,rfl,sL⟩
     exact o6.of (sL _ _ w3)
    ·rintro k y σ L8 hy ⟨v12,v13,v14,rfl,sL8⟩
     obtain⟨wd,_,rfl⟩:=Ai hy
     have sM8:=(sM6.trans w1).trans sL8
     have hbd:=DX ok fl wd
     simpa only[BR,↓Oa,Hn,↓C8]
     obtain⟨dx3,N3,B3,om3,hx3⟩:=Ep sM8
     refine⟨dx3,_,hx3,rfl,ms,Xp.same sM8,fun rr VW N9 s9 hto hvt hdt=> ?_⟩
     have htl:VW.length=(A1 ms fl wd).length:=by have:=hdt.length;rwa [i5] at this
     have tl0:TL L8 rr VW (1000+0) N9:=by
      refine⟨s9,hvt,fun v hv=> ?_⟩
      obtain⟨k,hk⟩:=Bj.mp hv
      obtain⟨dv,g1,g2⟩:=hdt.get hk
      rw[u8] at g1
      obtain⟨qq,hq,rfl⟩:=D3.mp g1
      obtain⟨a',b',rfl,ha',hb'⟩:=EL g2
      have nt:b'≠rr:=fun e=>by rw[e] at hb';unfold Bs at hb';rw[if_pos rfl] at hb';cases hb'
      obtain⟨y1,y2⟩:=EZ (At _ _ _ _ hb')
      exact⟨a',b',qq.1,_,rfl,Am _ _ (At _ _ _ _ ha'),y2,nt,y1,by rw[i5];exact(hbd.2 qq (E7 hq)).2.1⟩
     refine⟨⟨_,o6.of hvt⟩,w6 VW (fun i' σ L=>∃v13 v14:Option V,σ=BR (some (.ref a)) (some (.ref dr)) (some (.ref nm)) (some (.ref mk)) (some (.ref b)) (some (.ref nu)) (some (.ref du)) (some (.ref x)) (some (.int (0+(i:Int)))) (some (.ref fo)) (some (.ref t)) (some (.str fl)) (some (.str wd)) v13 v14/\TL L8 rr VW (1000+i') L) ⟨_,_,rfl,tl0⟩ ?_ ?_ ?_⟩
     ·rintro k σ L hk ⟨v13,v14,rfl,tl⟩
      exact o6.of tl.2.1
     ·rintro k y σ L hy ⟨v13,v14,rfl,tl⟩
      obtain⟨a',b',m,ps,rfl,y1,y2,y3,y4,y5⟩:=tl.2.2 y (E7 hy)
      have VY:=(D9.mp hy).1
      simpa only[BR]
      refine⟨_,AG.of y1,rfl,?_⟩
      simpa only[l8]
      exact⟨.inl ⟨rfl,_,o6.of y4⟩,_,y4,Ag (by omega),tl.step y2 y3 y4 y5 _⟩
     ·rintro σ L ⟨v13,v14,rfl,tl⟩
      exact⟨_,_,_,rfl,sL8.trans tl.1⟩
    ·rintro σ L ⟨v12,v13,v14,rfl,sL'⟩
     exact⟨_,_,_,_,rfl,sL.trans (w1.trans sL')⟩
   ·rintro σ L ⟨v11,v12,v13,v14,rfl,sL⟩
    exact hN _ _ ⟨_,_,_,_,rfl,z1.trans sL⟩
  rintro σ L9 ⟨v11,v12,v13,v14,rfl,s59⟩
  have sB9:=sB5.trans s59
  simpa only[BR,↓RV,HJ]
  exact⟨ms,Xp.same (sM5.trans s59),sB9 _ _ hnuB,hfatB.same sB9,fun H' z1=>Bb (sB9.trans z1)⟩
 rintro σ L _
 simpa only[l8]
 exact q L
theorem all_mk{l:PySem.W.OpenLaw}{w:World}{K:n9}{h:Heap}{mg:Str->Option Value}{fa f1 f2 f3 f4 f5 f6 f7 f8 f9 f10 f11 f12 f13 f14 f15 f16 f17 f18 f19 f20 f21 f22 f23 f24 f25 f26 f27 f28 f29 f30 f31 f32 f33 f34 f35 f36 f37 f38 f39 f40 f41 f42 f43 f44 f45 f46 fsInit fsPM fsPF fsPW fsPP fsPL fsRI fsByte fsNum fsBeh fsRis fsNP fsNT fsLE PC RC:Addr}(X:K.In h)(G:h.Ns mainGlobals mg)(hfa:mg "law"=some (.ref fa))
  {od46 an46:Option Addr}{sl46:Array (Option Value)}{oc46 kV46 dc46 pm46 ct46 cd46:Value}{tk0 tk1 tk2 tk3 tk4 tk5 tk6 tk7:Tok}
  (a1:PySem.W.nsIn K mainGlobals "is_small_letter"=some (some (.ref f1)))
  (F1:∃fd,Fun K "is_small_letter" "is_small_letter" MA f1 fd)
  (a2:PySem.W.nsIn K mainGlobals "is_figure"=some (some (.ref f2)))
  (F2:∃fd,Fun K "is_figure" "is_figure" Qab f2 fd)
  (a3:PySem.W.nsIn K mainGlobals "is_word_sign"=some (some (.ref f3)))
  (F3:∃fd,Fun K "is_word_sign" "is_word_sign" SN f3 fd)
  (a4:PySem.W.nsIn K mainGlobals "is_name"=some (some (.ref f4)))
  (F4:∃fd,Fun K "is_name" "is_name" Ol f4 fd)
  (a5:PySem.W.nsIn K mainGlobals "look_at_document"=some (some (.ref f5)))
  (F5:∃fd,Fun K "look_at_document" "look_at_document" SR f5 fd)
  (a6:PySem.W.nsIn K mainGlobals "end_of_word"=some (some (.ref f6)))
  (F6:∃fd,Fun K "end_of_word" "end_of_word" Qac f6 fd)
  (a7:PySem.W.nsIn K mainGlobals "words_of"=some (some (.ref f7)))
  (F7:∃fd,Fun K "words_of" "words_of" Mx f7 fd)
  (a8:PySem.W.nsIn K mainGlobals "bare_words"=some (some (.ref f8)))
  (F8:∃fd,Fun K "bare_words" "bare_words" Op f8 fd)
  (a9:PySem.W.nsIn K mainGlobals "places_by_word"=some (some (.ref f9)))
  (F9:∃fd,Fun K "places_by_word" "places_by_word" IT f9 fd)
  (a10:PySem.W.nsIn K mainGlobals "is_whole_number"=some (some (.ref f10)))
  (F10:∃fd,Fun K "is_whole_number" "is_whole_number" Mz f10 fd)
  (a11:PySem.W.nsIn K mainGlobals "look_at_makes"=some (some (.ref f11)))
  (F11:∃fd,Fun K "look_at_makes" "look_at_makes" MC f11 fd)
  (a12:PySem.W.nsIn K mainGlobals "add_postings"=some (some (.ref f12)))
  (F12:∃fd,Fun K "add_postings" "add_postings" Qag f12 fd)
  (a13:PySem.W.nsIn K mainGlobals "piece_of_parts"=some (some (.ref f13)))
  (F13:∃fd,Fun K "piece_of_parts" "piece_of_parts" ZR f13 fd)
  (a14:PySem.W.nsIn K mainGlobals "number_bytes"=some (some (.ref f14)))
  (F14:∃fd,Fun K "number_bytes" "number_bytes" sNb f14 fd)
  (a15:PySem.W.nsIn K mainGlobals "rising_bytes"=some (some (.ref f15)))
  (F15:∃fd,Fun K "rising_bytes" "rising_bytes" sRb f15 fd)
  (a16:PySem.W.nsIn K mainGlobals "postings_bytes"=some (some (.ref f16)))
  (F16:∃fd,Fun K "postings_bytes" "postings_bytes" sPb f16 fd)
  (a17:PySem.W.nsIn K mainGlobals "text_bytes"=some (some (.ref f17)))
  (F17:∃fd,Fun K "text_bytes" "text_bytes" sTb f17 fd)
  (a18:PySem.W.nsIn K mainGlobals "field_bytes"=some (some (.ref f18)))
  (F18:∃fd,Fun K "field_bytes" "field_bytes" sFb f18 fd)
  (a19:PySem.W.nsIn K mainGlobals "piece_bytes"=some (some (.ref f19)))
  (F19:∃fd,Fun K "piece_bytes" "piece_bytes" ZS f19 fd)
  (a20:PySem.W.nsIn K mainGlobals "is_word"=some (some (.ref f20)))
  (F20:∃fd,Fun K "is_word" "is_word" Wz f20 fd)
  (a21:PySem.W.nsIn K mainGlobals "sign_of_byte"=some (some (.ref f21)))
  (F21:∃fd,Fun K "sign_of_byte" "sign_of_byte" sSg f21 fd)
  (a22:PySem.W.nsIn K mainGlobals "next_word"=some (some (.ref f22)))
  (F22:∃fd,Fun K "next_word" "next_word" sNW f22 fd)
  (a23:PySem.W.nsIn K mainGlobals "next_words"=some (some (.ref f23)))
  (F23:∃fd,Fun K "next_words" "next_words" ZU f23 fd)
  (a24:PySem.W.nsIn K mainGlobals "next_field"=some (some (.ref f24)))
  (F24:∃fd,Fun K "next_field" "next_field" sNF f24 fd)
  (a25:PySem.W.nsIn K mainGlobals "next_lengths"=some (some (.ref f25)))
  (F25:∃fd,Fun K "next_lengths" "next_lengths" sNL f25 fd)
  (a26:PySem.W.nsIn K mainGlobals "look_at_places"=some (some (.ref f26)))
  (F26:∃fd,Fun K "look_at_places" "look_at_places" ZX f26 fd)
  (a27:PySem.W.nsIn K mainGlobals "add_lengths"=some (some (.ref f27)))
  (F27:∃fd,Fun K "add_lengths" "add_lengths" Qaf f27 fd)
  (a28:PySem.W.nsIn K mainGlobals "next_piece"=some (some (.ref f28)))
  (F28:∃fd,Fun K "next_piece" "next_piece" ZV f28 fd)
  (a29:PySem.W.nsIn K mainGlobals "read_piece"=some (some (.ref f29)))
  (F29:∃fd,Fun K "read_piece" "read_piece" ZQ f29 fd)
  (a30:PySem.W.nsIn K mainGlobals "_law_draws"=some (some (.ref f30)))
  (F30:∃fd,Fun K "_law_draws" "_law_draws" IV f30 fd)
  (a31:PySem.W.nsIn K mainGlobals "_law_pop"=some (some (.ref f31)))
  (F31:∃fd,Fun K "_law_pop" "_law_pop" SO f31 fd)
  (a32:PySem.W.nsIn K mainGlobals "_law_alike"=some (some (.ref f32)))
  (F32:∃fd,Fun K "_law_alike" "_law_alike" IW f32 fd)
  (a33:PySem.W.nsIn K mainGlobals "_law_signs"=some (some (.ref f33)))
  (F33:∃fd,Fun K "_law_signs" "_law_signs" MB f33 fd)
  (a34:PySem.W.nsIn K mainGlobals "_law_words"=some (some (.ref f34)))
  (F34:∃fd,Fun K "_law_words" "_law_words" sLW f34 fd)
  (a35:PySem.W.nsIn K mainGlobals "_law_names"=some (some (.ref f35)))
  (F35:∃fd,Fun K "_law_names" "_law_names" SQ f35 fd)
  (a36:PySem.W.nsIn K mainGlobals "_law_document"=some (some (.ref f36)))
  (F36:∃fd,Fun K "_law_document" "_law_document" Qad f36 fd)
  (a37:PySem.W.nsIn K mainGlobals "_law_makes"=some (some (.ref f37)))
  (F37:∃fd,Fun K "_law_makes" "_law_makes" ZW f37 fd)
  (a38:PySem.W.nsIn K mainGlobals "_law_large"=some (some (.ref f38)))
  (F38:∃fd,Fun K "_law_large" "_law_large" FS f38 fd)
  (a39:PySem.W.nsIn K mainGlobals "_law_table"=some (some (.ref f39)))
  (F39:∃fd,Fun K "_law_table" "_law_table" ZO f39 fd)
  (a40:PySem.W.nsIn K mainGlobals "_law_length"=some (some (.ref f40)))
  (F40:∃fd,Fun K "_law_length" "_law_length" Wy f40 fd)
  (a41:PySem.W.nsIn K mainGlobals "_law_number_bytes"=some (some (.ref f41)))
  (F41:∃fd,Fun K "_law_number_bytes" "_law_number_bytes" Qaa f41 fd)
  (a42:PySem.W.nsIn K mainGlobals "_law_text_bytes"=some (some (.ref f42)))
  (F42:∃fd,Fun K "_law_text_bytes" "_law_text_bytes" ZY f42 fd)
  (a43:PySem.W.nsIn K mainGlobals "_law_postings_bytes"=some (some (.ref f43)))
  (F43:∃fd,Fun K "_law_postings_bytes" "_law_postings_bytes" ZZ f43 fd)
  (a44:PySem.W.nsIn K mainGlobals "_law_piece_bytes"=some (some (.ref f44)))
  (F44:∃fd,Fun K "_law_piece_bytes" "_law_piece_bytes" SS f44 fd)
  (a45:PySem.W.nsIn K mainGlobals "_law_tells"=some (some (.ref f45)))
  (F45:∃fd,Fun K "_law_tells" "_law_tells" ZN f45 fd)
  (a46:PySem.W.nsIn K mainGlobals "law"=some (some (.ref f46)))
  (l46:K.lookup f46=some ⟨oc46,od46, .func (PySem.W.fnOf "law" "law" (BE Hs) (Ap Hs) (i7 Hs) .none kV46 dc46 pm46 an46 cd46 ct46),sl46⟩)
  (c46:PySem.W.codeIn K cd46 "law"=true)
  (k46:PySem.W.keepIn K (.ref f46)=true)
  (nPC:PySem.W.nsIn K mainGlobals "Piece"=some (some (.ref PC)))
  (nRC:PySem.W.nsIn K mainGlobals "Reader"=some (some (.ref RC)))
  (isInit:PySem.W.findIn K (.ref PC) "__init__"=some (some (.ref fsInit)))
  (jsInit:PySem.W.isFn K (.ref fsInit)=true)
  (FsInit:∃fd,Fun K "__init__" "Piece.__init__" On fsInit fd)
  (isPM:PySem.W.findIn K (.ref PC) "makes"=some (some (.ref fsPM)))
  (jsPM:PySem.W.isFn K (.ref fsPM)=true)
  (FsPM:∃fd,Fun K "makes" "Piece.makes" sPM fsPM fd)
  (isPF:PySem.W.findIn K (.ref PC) "fields"=some (some (.ref fsPF)))
  (jsPF:PySem.W.isFn K (.ref fsPF)=true)
  (FsPF:∃fd,Fun K "fields" "Piece.fields" sPF fsPF fd)
  (isPW:PySem.W.findIn K (.ref PC) "words"=some (some (.ref fsPW)))
  (jsPW:PySem.W.isFn K (.ref fsPW)=true)
  (FsPW:∃fd,Fun K "words" "Piece.words" sPW fsPW fd)
  (isPP:PySem.W.findIn K (.ref PC) "postings"=some (some (.ref fsPP)))
  (jsPP:PySem.W.isFn K (.ref fsPP)=true)
  (FsPP:∃fd,Fun K "postings" "Piece.postings" sPP fsPP fd)
  (isPL:PySem.W.findIn K (.ref PC) "length"=some (some (.ref fsPL)))
  (jsPL:PySem.W.isFn K (.ref fsPL)=true)
  (FsPL:∃fd,Fun K "length" "Piece.length" sPL fsPL fd)
  (isRI:PySem.W.findIn K (.ref RC) "__init__"=some (some (.ref fsRI)))
  (jsRI:PySem.W.isFn K (.ref fsRI)=true)
  (FsRI:∃fd,Fun K "__init__" "Reader.__init__" sRI fsRI fd)
  (isByte:PySem.W.findIn K (.ref RC) "next_byte"=some (some (.ref fsByte)))
  (jsByte:PySem.W.isFn K (.ref fsByte)=true)
  (FsByte:∃fd,Fun K "next_byte" "Reader.next_byte" SU fsByte fd)
  (isNum:PySem.W.findIn K (.ref RC) "next_number"=some (some (.ref fsNum)))
  (jsNum:PySem.W.isFn K (.ref fsNum)=true)
  (FsNum:∃fd,Fun K "next_number" "Reader.next_number" ZT fsNum fd)
  (isBeh:PySem.W.findIn K (.ref RC) "next_behind"=some (some (.ref fsBeh)))
  (jsBeh:PySem.W.isFn K (.ref fsBeh)=true)
  (FsBeh:∃fd,Fun K "next_behind" "Reader.next_behind" Qae fsBeh fd)
  (isRis:PySem.W.findIn K (.ref RC) "next_rising"=some (some (.ref fsRis)))
  (jsRis:PySem.W.isFn K (.ref fsRis)=true)
  (FsRis:∃fd,Fun K "next_rising" "Reader.next_rising" ZP fsRis fd)
  (isNP:PySem.W.findIn K (.ref RC) "next_postings"=some (some (.ref fsNP)))
  (jsNP:PySem.W.isFn K (.ref fsNP)=true)
  (FsNP:∃fd,Fun K "next_postings" "Reader.next_postings" sNP fsNP fd)
  (isNT:PySem.W.findIn K (.ref RC) "next_text"=some (some (.ref fsNT)))
  (jsNT:PySem.W.isFn K (.ref fsNT)=true)
  (FsNT:∃fd,Fun K "next_text" "Reader.next_text" sNT fsNT fd)
  (isLE:PySem.W.findIn K (.ref RC) "look_at_end"=some (some (.ref fsLE)))
  (jsLE:PySem.W.isFn K (.ref fsLE)=true)
  (FsLE:∃fd,Fun K "look_at_end" "Reader.look_at_end" sLE fsLE fd)
  (p1:PySem.W.plainGet K PC Str.empty=true)
  (p2:PySem.W.hasDictIn K PC=true)
  (p3:PySem.W.plainOver K PC=true)
  (p4:PySem.W.findIn K (.ref PC) "__setattr__"=some (some (.builtin "object.__setattr__")))
  (p5:PySem.W.makesIn K PC=true)
  (p6:PySem.W.keepIn K (.ref PC)=true)
  (q1:PySem.W.findIn K (.ref PC) "own_makes"=some none)
  (q2:PySem.W.findIn K (.ref PC) "by_field"=some none)
  (q3:PySem.W.findIn K (.ref PC) "lengths"=some none)
  (y1:PySem.W.plainGet K RC Str.empty=true)
  (y2:PySem.W.hasDictIn K RC=true)
  (y3:PySem.W.plainOver K RC=true)
  (y4:PySem.W.findIn K (.ref RC) "__setattr__"=some (some (.builtin "object.__setattr__")))
  (y5:PySem.W.makesIn K RC=true)
  (y6:PySem.W.keepIn K (.ref RC)=true)
  (x1:PySem.W.findIn K (.ref RC) "row"=some none)
  (x2:PySem.W.findIn K (.ref RC) "at"=some none)
  (s1:PySem.W.nsIn K mainGlobals "MOST_NAME_SIGNS"=some (some (.int 12 tk1)))
  (s2:PySem.W.nsIn K mainGlobals "BYTE_PART"=some (some (.int 128 tk2)))
  (s3:PySem.W.nsIn K mainGlobals "LAST_BYTE"=some (some (.int 255 tk3)))
  (s4:PySem.W.nsIn K mainGlobals "FIRST_SIGN"=some (some (.int 32 tk4)))
  (s5:PySem.W.nsIn K mainGlobals "LAST_SIGN"=some (some (.int 126 tk5)))
  (s6:PySem.W.nsIn K mainGlobals "NO_SIGN"=some (some (.int 37 tk6)))
  (s7:PySem.W.nsIn K mainGlobals "SIGNS"=some (some (.str Ni tk7)))
  (z1:PySem.W.nsIn K mainGlobals "len"=some none)
  (z2:PySem.W.nsIn K mainGlobals "range"=some none)
  (z3:PySem.W.nsIn K mainGlobals "isinstance"=some none)
  (z4:PySem.W.nsIn K mainGlobals "int"=some none)
  (z5:PySem.W.nsIn K mainGlobals "bool"=some none)
  (z6:PySem.W.nsIn K mainGlobals "list"=some none)
  (z7:PySem.W.nsIn K mainGlobals "dict"=some none)
  (z8:PySem.W.nsIn K mainGlobals "min"=some none)
  (z9:PySem.W.nsIn K mainGlobals "sorted"=some none)
  (z10:PySem.W.nsIn K mainGlobals "all"=some none)
  (z11:PySem.W.nsIn K mainGlobals "enumerate"=some none)
  (z12:PySem.W.nsIn K mainGlobals "str"=some none)
  (z13:PySem.W.nsIn K mainGlobals "tuple"=some none)
  (z14:PySem.W.nsIn K mainGlobals "sum"=some none)
  (z15:PySem.W.nsIn K mainGlobals "ord"=some none)
  :∃fd:FuncData,(∀(s:Shared) (v:Value),BindsTo s fd ⟨[v],[]⟩ [("_law_script",v)])/\∀bs0:Heap,K.In bs0->bs0.Ns mainGlobals mg->FnOkL l.prog w K mg bs0 x8 11 fa fd ["_law_script"] (Od K):=by
 have e:=hfa.symm.trans (w9 X G a46)
 cases e
 have t1:=W5 X G z1
 have t2:=W5 X G z2
 have t3:=W5 X G z3
 have t4:=W5 X G z4
 have t5:=W5 X G z5
 have t6:=W5 X G z6
 have t7:=W5 X G z7
 have t8:=W5 X G z8
 have t9:=W5 X G z9
 have t10:=W5 X G z10
 have t11:=W5 X G z11
 have t12:=W5 X G z12
 have t13:=W5 X G z13
 have t14:=W5 X G z14
 have t15:=W5 X G z15
 have u1:=w9 X G s1
 have u2:=w9 X G s2
 have u3:=w9 X G s3
 have u4:=w9 X G s4
 have u5:=w9 X G s5
 have u6:=w9 X G s6
 have u7:=w9 X G s7
 have mPC:=w9 X G nPC
 have mRC:=w9 X G nRC
 have T:Txt mg:={len:=t1,range:=t2,isinstance:=t3,int:=t4,bool:=t5,list:=t6,dict:=t7,min:=t8,sorted:=t9,all:=t10,enumerate:=t11,str:=t12,tuple:=t13,sum:=t14,ord:=t15,most:=⟨_,u1⟩,part:=⟨_,u2⟩,last:=⟨_,u3⟩,first:=⟨_,u4⟩,lastS:=⟨_,u5⟩,noS:=⟨_,u6⟩,signs:=⟨_,u7⟩}
 obtain⟨d1,F1⟩:=F1
 have m1:=w9 X G a1
 have b1:=F1.binds (ps:=["sign"]) fun _ _ _ _ _ _ us hl=>by obtain⟨_,rfl⟩:=BW hl;rfl
 obtain⟨d2,F2⟩:=F2
 have m2:=w9 X G a2
 have b2:=F2.binds (ps:=["sign"]) fun _ _ _ _ _ _ us hl=>by obtain⟨_,rfl⟩:=BW hl;rfl
 obtain⟨d3,F3⟩:=F3
 have m3:=w9 X G a3
 have b3:=F3.binds (ps:=["sign"]) fun _ _ _ _ _ _ us hl=>by obtain⟨_,rfl⟩:=BW hl;rfl
 obtain⟨d4,F4⟩:=F4
 have m4:=w9 X G a4
 have b4:=F4.binds (ps:=["text"]) fun _ _ _ _ _ _ us hl=>by obtain⟨_,rfl⟩:=BW hl;rfl
 obtain⟨d5,F5⟩:=F5
 have m5:=w9 X G a5
 have b5:=F5.binds (ps:=["document"]) fun _ _ _ _ _ _ us hl=>by obtain⟨_,rfl⟩:=BW hl;rfl
 obtain⟨d6,F6⟩:=F6
 have m6:=w9 X G a6
 have b6:=F6.binds (ps:=["text","begin"]) fun _ _ _ _ _ _ us hl=>by obtain⟨_,_,rfl⟩:=PD hl;rfl
 obtain⟨d7,F7⟩:=F7
 have m7:=w9 X G a7
 have b7:=F7.binds (ps:=["text"]) fun _ _ _ _ _ _ us hl=>by obtain⟨_,rfl⟩:=BW hl;rfl
 obtain⟨d8,F8⟩:=F8
 have m8:=w9 X G a8
 have b8:=F8.binds (ps:=["text"]) fun _ _ _ _ _ _ us hl=>by obtain⟨_,rfl⟩:=BW hl;rfl
 obtain⟨d9,F9⟩:=F9
 have m9:=w9 X G a9
 have b9:=F9.binds (ps:=["words"]) fun _ _ _ _ _ _ us hl=>by obtain⟨_,rfl⟩:=BW hl;rfl
 obtain⟨d10,F10⟩:=F10
 have m10:=w9 X G a10
 have b10:=F10.binds (ps:=["value"]) fun _ _ _ _ _ _ us hl=>by obtain⟨_,rfl⟩:=BW hl;rfl
 obtain⟨d11,F11⟩:=F11
 have m11:=w9 X G a11
 have b11:=F11.binds (ps:=["makes"]) fun _ _ _ _ _ _ us hl=>by obtain⟨_,rfl⟩:=BW hl;rfl
 obtain⟨d12,F12⟩:=F12
 have m12:=w9 X G a12
 have b12:=F12.binds (ps:=["by_word","make","words"]) fun _ _ _ _ _ _ us hl=>by obtain⟨_,_,_,rfl⟩:=VV hl;rfl
 obtain⟨dsInit,FsInit⟩:=FsInit
 have bsInit:=FsInit.binds (ps:=["self","makes"]) fun _ _ _ _ _ _ us hl=>by obtain⟨_,_,rfl⟩:=PD hl;rfl
 obtain⟨dsPM,FsPM⟩:=FsPM
 have bsPM:=FsPM.binds (ps:=["self"]) fun _ _ _ _ _ _ us hl=>by obtain⟨_,rfl⟩:=BW hl;rfl
 obtain⟨dsPF,FsPF⟩:=FsPF
 have bsPF:=FsPF.binds (ps:=["self"]) fun _ _ _ _ _ _ us hl=>by obtain⟨_,rfl⟩:=BW hl;rfl
 obtain⟨dsPW,FsPW⟩:=FsPW
 have bsPW:=FsPW.binds (ps:=["self","field"]) fun _ _ _ _ _ _ us hl=>by obtain⟨_,_,rfl⟩:=PD hl;rfl
 obtain⟨dsPP,FsPP⟩:=FsPP
 have bsPP:=FsPP.binds (ps:=["self","field","word"]) fun _ _ _ _ _ _ us hl=>by obtain⟨_,_,_,rfl⟩:=VV hl;rfl
 obtain⟨dsPL,FsPL⟩:=FsPL
 have bsPL:=FsPL.binds (ps:=["self","make","field"]) fun _ _ _ _ _ _ us hl=>by obtain⟨_,_,_,rfl⟩:=VV hl;rfl
 obtain⟨d13,F13⟩:=F13
 have m13:=w9 X G a13
 have b13:=F13.binds (ps:=["makes","by_field","lengths"]) fun _ _ _ _ _ _ us hl=>by obtain⟨_,_,_,rfl⟩:=VV hl;rfl
 obtain⟨d14,F14⟩:=F14
 have m14:=w9 X G a14
 have b14:=F14.binds (ps:=["number"]) fun _ _ _ _ _ _ us hl=>by obtain⟨_,rfl⟩:=BW hl;rfl
 obtain⟨d15,F15⟩:=F15
 have m15:=w9 X G a15
 have b15:=F15.binds (ps:=["numbers"]) fun _ _ _ _ _ _ us hl=>by obtain⟨_,rfl⟩:=BW hl;rfl
 obtain⟨d16,F16⟩:=F16
 have m16:=w9 X G a16
 have b16:=F16.binds (ps:=["postings"]) fun _ _ _ _ _ _ us hl=>by obtain⟨_,rfl⟩:=BW hl;rfl
 obtain⟨d17,F17⟩:=F17
 have m17:=w9 X G a17
 have b17:=F17.binds (ps:=["text"]) fun _ _ _ _ _ _ us hl=>by obtain⟨_,rfl⟩:=BW hl;rfl
 obtain⟨d18,F18⟩:=F18
 have m18:=w9 X G a18
 have b18:=F18.binds (ps:=["piece","field"]) fun _ _ _ _ _ _ us hl=>by obtain⟨_,_,rfl⟩:=PD hl;rfl
 obtain⟨d19,F19⟩:=F19
 have m19:=w9 X G a19
 have b19:=F19.binds (ps:=["piece"]) fun _ _ _ _ _ _ us hl=>by obtain⟨_,rfl⟩:=BW hl;rfl
 obtain⟨d20,F20⟩:=F20
 have m20:=w9 X G a20
 have b20:=F20.binds (ps:=["text"]) fun _ _ _ _ _ _ us hl=>by obtain⟨_,rfl⟩:=BW hl;rfl
 obtain⟨d21,F21⟩:=F21
 have m21:=w9 X G a21
 have b21:=F21.binds (ps:=["byte"]) fun _ _ _ _ _ _ us hl=>by obtain⟨_,rfl⟩:=BW hl;rfl
 obtain⟨d22,F22⟩:=F22
 have m22:=w9 X G a22
 have b22:=F22.binds (ps:=["reader","ahead"]) fun _ _ _ _ _ _ us hl=>by obtain⟨_,_,rfl⟩:=PD hl;rfl
 obtain⟨d23,F23⟩:=F23
 have m23:=w9 X G a23
 have b23:=F23.binds (ps:=["reader"]) fun _ _ _ _ _ _ us hl=>by obtain⟨_,rfl⟩:=BW hl;rfl
 obtain⟨d24,F24⟩:=F24
 have m24:=w9 X G a24
 have b24:=F24.binds (ps:=["reader","ahead"]) fun _ _ _ _ _ _ us hl=>by obtain⟨_,_,rfl⟩:=PD hl;rfl
 obtain⟨d25,F25⟩:=F25
 have m25:=w9 X G a25
 have b25:=F25.binds (ps:=["reader","makes"]) fun _ _ _ _ _ _ us hl=>by obtain⟨_,_,rfl⟩:=PD hl;rfl
 obtain⟨d26,F26⟩:=F26
 have m26:=w9 X G a26
 have b26:=F26.binds (ps:=["lengths","by_word"]) fun _ _ _ _ _ _ us hl=>by obtain⟨_,_,rfl⟩:=PD hl;rfl
 obtain⟨d27,F27⟩:=F27
 have m27:=w9 X G a27
 have b27:=F27.binds (ps:=["lengths","field","field_lengths"]) fun _ _ _ _ _ _ us hl=>by obtain⟨_,_,_,rfl⟩:=VV hl;rfl
 obtain⟨d28,F28⟩:=F28
 have m28:=w9 X G a28
 have b28:=F28.binds (ps:=["reader"]) fun _ _ _ _ _ _ us hl=>by obtain⟨_,rfl⟩:=BW hl;rfl
 obtain⟨d29,F29⟩:=F29
 have m29:=w9 X G a29
 have b29:=F29.binds (ps:=["row"]) fun _ _ _ _ _ _ us hl=>by obtain⟨_,rfl⟩:=BW hl;rfl
 obtain⟨dsRI,FsRI⟩:=FsRI
 have bsRI:=FsRI.binds (ps:=["self","row"]) fun _ _ _ _ _ _ us hl=>by obtain⟨_,_,rfl⟩:=PD hl;rfl
 obtain⟨dsByte,FsByte⟩:=FsByte
 have bsByte:=FsByte.binds (ps:=["self"]) fun _ _ _ _ _ _ us hl=>by obtain⟨_,rfl⟩:=BW hl;rfl
 obtain⟨dsNum,FsNum⟩:=FsNum
 have bsNum:=FsNum.binds (ps:=["self"]) fun _ _ _ _ _ _ us hl=>by obtain⟨_,rfl⟩:=BW hl;rfl
 obtain⟨dsBeh,FsBeh⟩:=FsBeh
 have bsBeh:=FsBeh.binds (ps:=["self","numbers"]) fun _ _ _ _ _ _ us hl=>by obtain⟨_,_,rfl⟩:=PD hl;rfl
 obtain⟨dsRis,FsRis⟩:=FsRis
 have bsRis:=FsRis.binds (ps:=["self"]) fun _ _ _ _ _ _ us hl=>by obtain⟨_,rfl⟩:=BW hl;rfl
 obtain⟨dsNP,FsNP⟩:=FsNP
 have bsNP:=FsNP.binds (ps:=["self"]) fun _ _ _ _ _ _ us hl=>by obtain⟨_,rfl⟩:=BW hl;rfl
 obtain⟨dsNT,FsNT⟩:=FsNT
 have bsNT:=FsNT.binds (ps:=["self"]) fun _ _ _ _ _ _ us hl=>by obtain⟨_,rfl⟩:=BW hl;rfl
 obtain⟨dsLE,FsLE⟩:=FsLE
 have bsLE:=FsLE.binds (ps:=["self"]) fun _ _ _ _ _ _ us hl=>by obtain⟨_,rfl⟩:=BW hl;rfl
 obtain⟨d30,F30⟩:=F30
 have m30:=w9 X G a30
 have b30:=F30.binds (ps:=["_law_script","_law_turn","_law_many"]) fun _ _ _ _ _ _ us hl=>by obtain⟨_,_,_,rfl⟩:=VV hl;rfl
 obtain⟨d31,F31⟩:=F31
 have m31:=w9 X G a31
 have b31:=F31.binds (ps:=["_law_draws_here"]) fun _ _ _ _ _ _ us hl=>by obtain⟨_,rfl⟩:=BW hl;rfl
 obtain⟨d32,F32⟩:=F32
 have m32:=w9 X G a32
 have b32:=F32.binds (ps:=["_law_found","_law_due"]) fun _ _ _ _ _ _ us hl=>by obtain⟨_,_,rfl⟩:=PD hl;rfl
 obtain⟨d33,F33⟩:=F33
 have m33:=w9 X G a33
 have b33:=F33.binds (ps:=[]) fun _ _ _ _ _ _ us hl=>by rw[Dy hl];rfl
 obtain⟨d34,F34⟩:=F34
 have m34:=w9 X G a34
 have b34:=F34.binds (ps:=["_law_text"]) fun _ _ _ _ _ _ us hl=>by obtain⟨_,rfl⟩:=BW hl;rfl
 obtain⟨d35,F35⟩:=F35
 have m35:=w9 X G a35
 have b35:=F35.binds (ps:=["_law_draws_here"]) fun _ _ _ _ _ _ us hl=>by obtain⟨_,rfl⟩:=BW hl;rfl
 obtain⟨d36,F36⟩:=F36
 have m36:=w9 X G a36
 have b36:=F36.binds (ps:=["_law_draws_here","_law_names_here","_law_most"]) fun _ _ _ _ _ _ us hl=>by obtain⟨_,_,_,rfl⟩:=VV hl;rfl
 obtain⟨d37,F37⟩:=F37
 have m37:=w9 X G a37
 have b37:=F37.binds (ps:=["_law_draws_here","_law_names_here","_law_many","_law_most"]) fun _ _ _ _ _ _ us hl=>by obtain⟨_,_,_,_,rfl⟩:=us4 hl;rfl
 obtain⟨d38,F38⟩:=F38
 have m38:=w9 X G a38
 have b38:=F38.binds (ps:=["_law_draws_here"]) fun _ _ _ _ _ _ us hl=>by obtain⟨_,rfl⟩:=BW hl;rfl
 obtain⟨d39,F39⟩:=F39
 have m39:=w9 X G a39
 have b39:=F39.binds (ps:=["_law_makes_here"]) fun _ _ _ _ _ _ us hl=>by obtain⟨_,rfl⟩:=BW hl;rfl
 obtain⟨d40,F40⟩:=F40
 have m40:=w9 X G a40
 have b40:=F40.binds (ps:=["_law_table_here","_law_make","_law_field"]) fun _ _ _ _ _ _ us hl=>by obtain⟨_,_,_,rfl⟩:=VV hl;rfl
 obtain⟨d41,F41⟩:=F41
 have m41:=w9 X G a41
 have b41:=F41.binds (ps:=["_law_number"]) fun _ _ _ _ _ _ us hl=>by obtain⟨_,rfl⟩:=BW hl;rfl
 obtain⟨d42,F42⟩:=F42
 have m42:=w9 X G a42
 have b42:=F42.binds (ps:=["_law_text"]) fun _ _ _ _ _ _ us hl=>by obtain⟨_,rfl⟩:=BW hl;rfl
 obtain⟨d43,F43⟩:=F43
 have m43:=w9 X G a43
 have b43:=F43.binds (ps:=["_law_postings"]) fun _ _ _ _ _ _ us hl=>by obtain⟨_,rfl⟩:=BW hl;rfl
 obtain⟨d44,F44⟩:=F44
 have m44:=w9 X G a44
 have b44:=F44.binds (ps:=["_law_makes_here","_law_table_here"]) fun _ _ _ _ _ _ us hl=>by obtain⟨_,_,rfl⟩:=PD hl;rfl
 obtain⟨d45,F45⟩:=F45
 have m45:=w9 X G a45
 have b45:=F45.binds (ps:=["_law_piece","_law_makes_here","_law_table_here"]) fun _ _ _ _ _ _ us hl=>by obtain⟨_,_,_,rfl⟩:=VV hl;rfl
 have F46:=UH (st:=Hs) l46 c46 k46
 have m46:=w9 X G a46
 have cl:Cls K PC:=⟨p1,p2,p3,p4⟩
 have clR:Cls K RC:=⟨y1,y2,y3,y4⟩
 refine⟨PySem.W.fnOf "law" "law" (BE Hs) (Ap Hs) (i7 Hs) .none kV46 dc46 pm46 an46 cd46 ct46,fun s v=> .of_eq rfl,fun bs0 _ _=> ?_⟩
 have oS:=TC (P:=l.prog) (w:=w) (mg:=mg) (bs0:=bs0) F1
 have oFg:=QaP (P:=l.prog) (w:=w) (mg:=mg) (bs0:=bs0) F2
 have oSg:=WN (P:=l.prog) (w:=w) (mg:=mg) (bs0:=bs0) F3 oS b1 F1.kp m1 oFg b2 F2.kp m2
 have oE:=QaQ (P:=l.prog) (w:=w) (mg:=mg) (bs0:=bs0) F6 T oSg b3 F3.kp m3
 have oWo:=Tz (P:=l.prog) (w:=w) (mg:=mg) (bs0:=bs0) F7 T oE b6 F6.kp m6
 have oBw:=WV (P:=l.prog) (w:=w) (mg:=mg) (bs0:=bs0) F8 T oWo b7 F7.kp m7
 have oN:=WQ (P:=l.prog) (w:=w) (mg:=mg) (bs0:=bs0) F4 T oS b1 F1.kp m1
 have oLk:=WS (P:=l.prog) (w:=w) (mg:=mg) (bs0:=bs0) F5 T oN b4 F4.kp m4
 have oWh:=TB (P:=l.prog) (w:=w) (mg:=mg) (bs0:=bs0) F10 T
 have oLm:=TH (P:=l.prog) (w:=w) (mg:=mg) (bs0:=bs0) F11 T oWh b10 F10.kp m10 oLk b5 F5.kp m5
 have oPb:=Qk (P:=l.prog) (w:=w) (mg:=mg) (bs0:=bs0) F9 T
 have oAd:=QaU (P:=l.prog) (w:=w) (mg:=mg) (bs0:=bs0) F12 T oPb b9 F9.kp m9
 have oIn:=WT (P:=l.prog) (w:=w) (mg:=mg) (bs0:=bs0) FsInit T cl q1 q2 q3 oLm b11 F11.kp m11 oBw b8 F8.kp m8 oAd b12 F12.kp m12
 have oPM:=Qcf (P:=l.prog) (w:=w) (mg:=mg) (bs0:=bs0) FsPM T cl q1
 have oPF:=Qch (P:=l.prog) (w:=w) (mg:=mg) (bs0:=bs0) FsPF T cl q2
 have oPW:=Qcd (P:=l.prog) (w:=w) (mg:=mg) (bs0:=bs0) FsPW T cl q2
 have oPP:=Qce (P:=l.prog) (w:=w) (mg:=mg) (bs0:=bs0) FsPP T cl q2
 have oPL:=Qcg (P:=l.prog) (w:=w) (mg:=mg) (bs0:=bs0) FsPL T cl q3
 have oPo:=QaB (P:=l.prog) (w:=w) (mg:=mg) (bs0:=bs0) F13 T cl q1 q2 q3 ⟨p5,isInit,jsInit,p6⟩ mPC oIn bsInit
 have oNb:=Qco (P:=l.prog) (w:=w) (mg:=mg) (bs0:=bs0) F14 T
 have oRb:=Qcc (P:=l.prog) (w:=w) (mg:=mg) (bs0:=bs0) F15 T oNb b14 F14.kp m14
 have oPsb:=Qci (P:=l.prog) (w:=w) (mg:=mg) (bs0:=bs0) F16 T oNb b14 F14.kp m14 oRb b15 F15.kp m15
 have oTb:=Qca (P:=l.prog) (w:=w) (mg:=mg) (bs0:=bs0) F17 T oNb b14 F14.kp m14
 have oFb:=Qcr (P:=l.prog) (w:=w) (mg:=mg) (bs0:=bs0) F18 T cl ⟨isPM,jsPM,FsPM.kp⟩ oPM bsPM ⟨isPL,jsPL,FsPL.kp⟩ oPL bsPL ⟨isPW,jsPW,FsPW.kp⟩ oPW bsPW ⟨isPP,jsPP,FsPP.kp⟩ oPP bsPP oNb b14 F14.kp m14 oPsb b16 F16.kp m16 oTb b17 F17.kp m17
 have oPcb:=QaC (P:=l.prog) (w:=w) (mg:=mg) (bs0:=bs0) F19 T cl ⟨isPM,jsPM,FsPM.kp⟩ oPM bsPM ⟨isPF,jsPF,FsPF.kp⟩ oPF bsPF oNb b14 F14.kp m14 oRb b15 F15.kp m15 oFb b18 F18.kp m18
 have oRI:=TD (P:=l.prog) (w:=w) (mg:=mg) (bs0:=bs0) FsRI clR x1 x2
 have oBy:=WU (P:=l.prog) (w:=w) (mg:=mg) (bs0:=bs0) FsByte T clR x1 x2
 have oNu:=QaE (P:=l.prog) (w:=w) (mg:=mg) (bs0:=bs0) FsNum T clR ⟨isByte,jsByte,FsByte.kp⟩ oBy bsByte
 have oLe:=Qcq (P:=l.prog) (w:=w) (mg:=mg) (bs0:=bs0) FsLE T clR x1 x2
 have oBe:=QaS (P:=l.prog) (w:=w) (mg:=mg) (bs0:=bs0) FsBeh T clR ⟨isNum,jsNum,FsNum.kp⟩ oNu bsNum
 have oRi:=QaA (P:=l.prog) (w:=w) (mg:=mg) (bs0:=bs0) FsRis T clR ⟨isNum,jsNum,FsNum.kp⟩ oNu bsNum ⟨isBeh,jsBeh,FsBeh.kp⟩ oBe bsBeh
 have oNP:=Qcl (P:=l.prog) (w:=w) (mg:=mg) (bs0:=bs0) FsNP T clR ⟨isNum,jsNum,FsNum.kp⟩ oNu bsNum ⟨isBeh,jsBeh,FsBeh.kp⟩ oBe bsBeh ⟨isRis,jsRis,FsRis.kp⟩ oRi bsRis
 have oSb:=Qcb (P:=l.prog) (w:=w) (mg:=mg) (bs0:=bs0) F21 T
 have oNT:=Qck (P:=l.prog) (w:=w) (mg:=mg) (bs0:=bs0) FsNT T clR ⟨isNum,jsNum,FsNum.kp⟩ oNu bsNum ⟨isByte,jsByte,FsByte.kp⟩ oBy bsByte oSb b21 F21.kp m21
 have oIw:=QaO (P:=l.prog) (w:=w) (mg:=mg) (bs0:=bs0) F20 T oS b1 F1.kp m1 oFg b2 F2.kp m2
 have oNw:=Qcj (P:=l.prog) (w:=w) (mg:=mg) (bs0:=bs0) F22 clR ⟨isNT,jsNT,FsNT.kp⟩ oNT bsNT oIw b20 F20.kp m20
 have oNf:=Qcn (P:=l.prog) (w:=w) (mg:=mg) (bs0:=bs0) F24 clR ⟨isNT,jsNT,FsNT.kp⟩ oNT bsNT oN b4 F4.kp m4
 have oNl:=Qcm (P:=l.prog) (w:=w) (mg:=mg) (bs0:=bs0) F25 T clR ⟨isNum,jsNum,FsNum.kp⟩ oNu bsNum
 have oAl:=QaT (P:=l.prog) (w:=w) (mg:=mg) (bs0:=bs0) F27
 have oNs:=QaD (P:=l.prog) (w:=w) (mg:=mg) (bs0:=bs0) F23 T clR ⟨isNum,jsNum,FsNum.kp⟩ oNu bsNum ⟨isNP,jsNP,FsNP.kp⟩ oNP bsNP oNw b22 F22.kp m22
 have oLp:=QaN (P:=l.prog) (w:=w) (mg:=mg) (bs0:=bs0) F26 T
 have oNc:=QaF (P:=l.prog) (w:=w) (mg:=mg) (bs0:=bs0) F28 T clR ⟨isRis,jsRis,FsRis.kp⟩ oRi bsRis ⟨isNum,jsNum,FsNum.kp⟩ oNu bsNum oNf b24 F24.kp m24 oNl b25 F25.kp m25 oNs b23 F23.kp m23 oLp b26 F26.kp m26 oAl b27 F27.kp m27 oPo b13 F13.kp m13
 have oRc:=Qaz (P:=l.prog) (w:=w) (mg:=mg) (bs0:=bs0) F29 T clR ⟨y5,isRI,jsRI,y6⟩ mRC oRI bsRI oNc b28 F28.kp m28 ⟨isLE,jsLE,FsLE.kp⟩ oLe bsLE
 have oD:=TK (P:=l.prog) (w:=w) (mg:=mg) (bs0:=bs0) F30 T
 have oP:=WO (P:=l.prog) (w:=w) (mg:=mg) (bs0:=bs0) F31
 have oNm:=QaG (P:=l.prog) (w:=w) (mg:=mg) (bs0:=bs0) F35 T oP b31 F31.kp m31
 have oDo:=QaR (P:=l.prog) (w:=w) (mg:=mg) (bs0:=bs0) F36 T oP b31 F31.kp m31
 have oMk:=QaH (P:=l.prog) (w:=w) (mg:=mg) (bs0:=bs0) F37 T oP b31 F31.kp m31 oDo b36 F36.kp m36
 have oLg:=TJ (P:=l.prog) (w:=w) (mg:=mg) (bs0:=bs0) F38 T oP b31 F31.kp m31
 have oLw:=Qcp (P:=l.prog) (w:=w) (mg:=mg) (bs0:=bs0) F34 T
 have oTa:=Qax (P:=l.prog) (w:=w) (mg:=mg) (bs0:=bs0) F39 T oLw b34 F34.kp m34
 have oLn:=QaL (P:=l.prog) (w:=w) (mg:=mg) (bs0:=bs0) F40 T
 have oSi:=Qay (P:=l.prog) (w:=w) (mg:=mg) (bs0:=bs0) F33
 have oLb:=QaK (P:=l.prog) (w:=w) (mg:=mg) (bs0:=bs0) F41 T
 have oLt:=QaI (P:=l.prog) (w:=w) (mg:=mg) (bs0:=bs0) F42 T oLb b41 F41.kp m41 oSi b33 F33.kp m33
 have oLpb:=QaJ (P:=l.prog) (w:=w) (mg:=mg) (bs0:=bs0) F43 T oLb b41 F41.kp m41
 have oLc:=WR (P:=l.prog) (w:=w) (mg:=mg) (bs0:=bs0) F44 T oLb b41 F41.kp m41 oLt b42 F42.kp m42 oLpb b43 F43.kp m43 oLn b40 F40.kp m40
 have oAk:=Va (P:=l.prog) (w:=w) (mg:=mg) (bs0:=bs0) F32 T b32 F32.kp m32 4
 have oTe:=Qaw (P:=l.prog) (w:=w) (mg:=mg) (bs0:=bs0) F45 T cl ⟨isPM,jsPM,FsPM.kp⟩ oPM bsPM ⟨isPF,jsPF,FsPF.kp⟩ oPF bsPF ⟨isPW,jsPW,FsPW.kp⟩ oPW bsPW ⟨isPP,jsPP,FsPP.kp⟩ oPP bsPP ⟨isPL,jsPL,FsPL.kp⟩ oPL bsPL oAk b32 F32.kp m32 oLn b40 F40.kp m40
 exact QaM F46 T cl ⟨p5,isInit,jsInit,p6⟩ mPC oIn bsInit ⟨isPM,jsPM,FsPM.kp⟩ oPM bsPM ⟨isPF,jsPF,FsPF.kp⟩ oPF bsPF ⟨isPW,jsPW,FsPW.kp⟩ oPW bsPW ⟨isPP,jsPP,FsPP.kp⟩ oPP bsPP oD b30 F30.kp m30 oNm b35 F35.kp m35 oP b31 F31.kp m31 oMk b37 F37.kp m37 oLg b38 F38.kp m38 oTa b39 F39.kp m39 oLc b44 F44.kp m44 oPcb b19 F19.kp m19 oAk b32 F32.kp m32 oRc b29 F29.kp m29 oTe b45 F45.kp m45
theorem walk{l:PySem.W.OpenLaw}{q:Program}{loose:List Str}{XP:(Str->Option Value)->Heap->Prop}{YP:World->Heap->Prop}{d:DefRec}{K:Params->n9}(hn:l.most=some 63)(hdf:d.params.defaults=[])
  (hY:∀(w:World) (h:Heap),YP w h->(K w.params).In h)
  (F:∀(w:World) (mg:Str->Option Value) (fa:Addr) (h:Heap),(K w.params).In h->h.Ns mainGlobals mg->mg d.name=some (.ref fa)->
   ∃fd:FuncData,(∀(s:Shared) (u:Value),BindsTo s fd ⟨[u],[]⟩ [("_law_script",u)])/\∀bs0:Heap,(K w.params).In bs0->bs0.Ns mainGlobals mg->FnOkL l.prog w (K w.params) mg bs0 x8 11 fa fd ["_law_script"] (Od (K w.params))):
  PySem.W.WalkO q loose XP YP l.row.toRowW d [] (fun f vs=>PySem.call f vs):=
 L2.NM (n:=63) (k:=11) (x:="_law_script") (CX:=fun _=>x8) (sp:=fun w=>Od (K w.params)) hn (by decide) hdf ⟨rfl,by decide,by decide⟩ hY F (fun _ _ a ns hl _ hS=>⟨a,ns,rfl,hS,hl,fun _=>rfl⟩) fun _ _ _ _ _ z=>z
end K14
open PySem PySem.W PyProof.Rows
local macro_rules
 | `(tactic|nofun)=> `(tactic|first|k_is|kernel_rfl)
namespace PySem.W.Fast
def tw12100018927730534843:=0
def tw7826309043118561045:=0
def tw14587035120566362541:=0
def tw15872903499290926110:=0
def tw6314184678012902920:=0
def tw2204449413297551113:=0
def tw12191157731592311461:=0
def tw11730172478271115415:=0
def tw9687899915520335337:=0
def tw17227443873207668406:=0
def tw11509290424381226450:=0
def tw15125596798687996362:=0
def tw7315958414592075588:=0
def tw2665807304313126553:=0
def tw10669321497112344470:=0
def tw10190259133727019804:=0
def tw8030540632703697568:=0
def tw5910098086468884384:=0
def tw7572685892205658216:=0
def tw4923898632835583514:=0
def tw8981414002563705209:=0
def tw1417739845558653508:=0
def tw11002129989887018405:=0
def tw7207014917019006364:=0
def tw10465135043004352714:=0
def tw8218748119194074954:=0
def tw7931226912815963361:=0
def tw15772104862918141530:=0
def tw16915109732953839562:=0
def tw15873498318496873405:=0
def tw10540892501843549313:=0
def tw6819036732489991262:=0
def tw12186639313733920071:=0
def tw17465487436729703965:=0
def tw9734494826210869825:=0
def tw6485154333331794270:=0
def tw6973955650769661702:=0
def tw12719640546317064830:=0
def tw18435530181180935435:=0
def tw17302625646340891873:=0
def tw13931556102065355529:=0
def tw4450998850489395297:=0
def tw7521322119926432380:=0
def tw12058319773344765644:=0
def tw1418616050229660795:=0
def tw16398480376889547738:=0
def tw3104077239139935879:=0
def tw16105572070464002872:=0
def tw4113287887811830936:=0
def tw10888131622099664449:=0
def tw8416826090994713788:=0
def tw16604614803083323438:=0
def tw17232235002773080228:=0
def tw4956731898370386227:=0
def tw12064483229870415436:=0
def tw1067048617095584796:=0
def tw17276886043879788744:=0
def tw11152693909977588975:=0
def tw11054218371981112948:=0
def tw2016441615408694797:=0
def tw12408080904298158199:=0
def tw39520098408277667:=0
def tw9451056330439913526:=0
def tw4704210460641924654:=0
def tw655014548663792872:=0
def tw4655870201164533932:=0
def tw15577978495092783376:=0
def tw6503812608569870872:=0
def tw11735316434937668492:=0
def tw3975395763099024539:=0
def tw14754614047083019667:=0
def tw15009722347659576763:=0
def tw18214570198501631066:=0
def tw16277001984622794774:=0
def tw6576907178000100454:=0
def tw5378189426078035161:=0
def tw8841263159194730129:=0
def tw2810504507155639537:=0
def tw6546069104447943589:=0
def tw11348220720026683145:=0
def tw608934925412058796:=0
def tw15985203577232637246:=0
def tw13895421309539361745:=0
def tw8455914148151201723:=0
def tw15063169665630109682:=0
def tw1651250294823484672:=0
def tw6515475245526130992:=0
def tw2207822048984034866:=0
def tw8102683764944044183:=0
def tw7463971883350964783:=0
def tw12693433236657359925:=0
def tw12241094320975182700:=0
def tw13860288394749336943:=0
def tw4373161223208867877:=0
def tw10535131059941449408:=0
def tw14082935014033544160:=0
def tw5653917624197331743:=0
def tw13776751802528154605:=0
def tw10064122345529102681:=0
def tw11520894940854805793:=0
def tw10143428912553389785:=0
def tw15885877494095836828:=0
def tw6955937768991313090:=0
def tw12162013763642867472:=0
def tw3221774013620666549:=0
def tw7598985994216553195:=0
def tw12931643877446027508:=0
def tw1116453675193782437:=0
def tw1045069225357311974:=0
def tw15294787240387928500:=0
def tw6071290345104653648:=0
def tw7183625386679383167:=0
def tw13009433693901917453:=0
def tw5679868093286313468:=0
def tw349746348799086046:=0
def tw813355360176088648:=0
def tw13137274500745262020:=0
def tw12333760621038145523:=0
def tw1871965546190450192:=0
def tw18001948404082949973:=0
def tw16740780235468478600:=0
def tw12666186363018301153:=0
def tw12194722458579187708:=0
def tw14620424990871031184:=0
def tw2217343688066765169:=0
def tw3417641196804620077:=0
def tw426082007329973658:=0
def tw11165410638582899011:=0
def tw1124747881657444258:=0
def tw16505389567355951353:=0
def tw6784839739684565613:=0
def tw17505937444195936420:=0
def tw11491237268354116667:=0
def tw937838381241228766:=0
def tw8137896099030748138:=0
def tw16279504436793541493:=0
def tw15854375486960174338:=0
def tw9927284950401972428:=0
def tw9939123015649252514:=0
def tw1736902534787475258:=0
def tw4291163498423141424:=0
def tw1291093570826364218:=0
def tw10086967499861140716:=0
def tw12074083217606850976:=0
def tw17479050018611178:=0
def tw726527062910148883:=0
def tw3283972246768169812:=0
def tw12545778355267399735:=0
def tw2112761294916825288:=0
def tw4694869266275402662:=0
def tw6248940465070421661:=0
def tw10914241134394415869:=0
def tw6928603294326360911:=0
def tw3152650109118027650:=0
def tw8600330634658395219:=0
def tw8550481722920929859:=0
def tw16638121179285583565:=0
def tw5589176763052462313:=0
def tw9225683689294716848:=0
def tw1361799248763495446:=0
def tw14330406305909174399:=0
def tw7033867808686488651:=0
def tw11615796494444091302:=0
def tw5509368890525723794:=0
def tw6833185487501178022:=0
def tw3989612923413919764:=0
def tw3163279822116529903:=0
def tw7186876213535283440:=0
def tw7636474836416185478:=0
def tw18246256898886869341:=0
def tw9094048943763672205:=0
def tw6712491227222364775:=0
def tw11238139967219570905:=0
def tw2258116205120452311:=0
def tw9399501983263948431:=0
def tw904379767478402050:=0
def tw9525160768257110820:=0
def tw15000749472978658818:=0
def tw6838273140824161064:=0
def tw8186869948999440524:=0
def tw6534240773796317781:=0
def tw4808409421269775482:=0
def tw4476135089273318305:=0
def tw12753229180074785309:=0
def tw10607762675822445771:=0
def tw9771218316785813495:=0
def tw17730713345452750106:=0
def tw7566177039135507809:=0
def tw7984208559321462568:=0
def tw2304446794463018443:=0
def tw16468879257252988315:=0
def tw2271631110196190781:=0
def tw5812774302461685764:=0
def tw16714593109416282951:=0
def tw11348197904658666361:=0
def tw14463268282005611332:=0
def tw5344481724179755896:=0
def tw4615261642813209090:=0
def tw2542728562270612615:=0
def tw14263010508464127132:=0
def tw11313726811622759604:=0
def tw4198381158370671119:=0
def tw2762115509476634297:=0
def tw10574750113317320206:=0
def tw9017341556536095882:=0
def tw12825037742175876680:=0
def tw11999918373564633071:=0
def tw2041498402211530174:=0
def tw12317529771013472671:=0
def tw16040292907248770545:=0
def tw16762551020878026608:=0
def tw4653550345198110660:=0
def tw17896437578528619897:=0
def tw16846126905930865859:=0
def tw10100330752994133747:=0
def tw12190637216110112927:=0
def tw15434895526321399499:=0
def tw14919161965779708105:=0
def tw3927888960165392720:=0
def tw10508622635639620473:=0
def tw9828202058982296179:=0
def tw5799824784709438821:=0
def tw16730197161649177934:=0
def tw2207313390196631669:=0
def tw11563018088151232324:=0
def tw1571960819067898373:=0
def tw3939650798234132272:=0
def tw5174970308831005268:=0
def tw10346929884547388471:=0
def tw10440506104568358717:=0
def tw8908018913251334219:=0
def tw294777038512276257:=0
def tw6672731552822134870:=0
def tw11638131754229384871:=0
def tw1633673247468920089:=0
def tw8399578617947490523:=0
def tw7983387466683824536:=0
def tw6068668902043864837:=0
def tw17008920424045269011:=0
def tw3846022761179933883:=0
def tw4086091290366198986:=0
def tw13269569434773681206:=0
def tw363140620646468618:=0
def tw4190811001891411605:=0
def tw14372839391637916139:=0
def tw2447407535833487430:=0
def tw13509694344966093500:=0
def tw10627713405903240764:=0
def tw17256415417024350843:=0
def tw10767766147191441778:=0
def tw18251082187645256983:=0
def tw4082225469381932918:=0
def tw338909369222229471:=0
def tw6248091935736206926:=0
def tw10275404709210554201:=0
def tw13229121960157338500:=0
def tw5677535830366725407:=0
def tw18307874741809233662:=0
def tw16920218989855105773:=0
def tw11012528190060575098:=0
def tw10821962807757243058:=0
def tw1288452053039919116:=0
def tw5204027508562449227:=0
def tw350597521660456953:=0
def tw8193825620148130154:=0
def tw7902007428206587256:=0
def tw3098467554813469758:=0
def tw2901997694766125284:=0
def tw13734709043492883305:=0
def tw237369135030643663:=0
def tw962790325649863712:=0
def tw12169032067624127901:=0
def tw10052054545248925548:=0
def tw6695622266619080023:=0
def tw17382593008889362958:=0
def tw17008360355871970771:=0
def tw10553937847249299898:=0
def tw11801263218934523087:=0
def tw9003524206507324107:=0
def tw13617328346532889945:=0
def tw8992744008962786860:=0
def tw948935170239196367:=0
def tw11092168601503171141:=0
def tw16145034844719252772:=0
def tw17133755724360942605:=0
def tw14818320330135280860:=0
def tw11452708195158677973:=0
def tw18151632760065577549:=0
def tw11662231888514500946:=0
def tw7497963550150630886:=0
def tw4514113331569084719:=0
def tw7366647588816296399:=0
def tw6765719781475650020:=0
def tw7243386923419892645:=0
def tw15559179733299975562:=0
def tw7305010490688409504:=0
def tw17607329595974277286:=0
def tw15361617637384307172:=0
def tw12191050253256424272:=0
def tw7682468182684719535:=0
def tw10134105441382852690:=0
def tw6490983842260056394:=0
def tw7554718445928376286:=0
def tw5133796780487882757:=0
def tw18147390285239329700:=0
def tw12725296582244436272:=0
def tw2421938445936493396:=0
def tw17674690993418673909:=0
def tw5689971237017758684:=0
def tw6549499395742522378:=0
def tw6366978016187662058:=0
def tw2789081745092273561:=0
def tw13754130160967079610:=0
def tw16057596912116741142:=0
def tw6999599407449536634:=0
def tw10319603297573851554:=0
def tw14639978290073588389:=0
def tw989646208942642788:=0
def tw4660463535119293717:=0
def tw4561524155072308717:=0
def tw14355421621961114897:=0
def tw13878643472829833492:=0
def tw1530977483709763611:=0
def tw2630403857838072304:=0
def tw13306937888960942258:=0
def tw6788987435464679755:=0
def tw14295542318087150818:=0
def tw15089364875698517870:=0
def tw4119062776938141356:=0
def tw11035503257492895805:=0
def tw4698323948879633396:=0
def tw5088804116857077685:=0
def tw2570119417487176048:=0
def tw10646506643551551809:=0
def tw2437290596045633421:=0
def tw8233153926538285852:=0
def tw4083822531607299463:=0
def tw15088743918938933609:=0
def tw11761936344895652784:=0
def tw17073604849040367947:=0
def tw17463099260616030530:=0
def tw3400593557490868634:=0
def tw6842274236406342511:=0
def tw408645348471888242:=0
def tw11125460857324895526:=0
def tw10919391598533384637:=0
def tw4619118843912919523:=0
def tw16053548853504688638:=0
def tw12976399711732725045:=0
def tw664530014863992229:=0
def tw2331564038335736359:=0
def tw13754070744686312900:=0
def tw6257307803307110207:=0
def tw3899606785601404012:=0
def tw14366408207774795499:=0
def tw1723916929559429519:=0
def tw4490664456703137525:=0
def tw7594647921833761700:=0
def tw7290697888440523591:=0
def tw6611254564785663625:=0
def tw1294124850527526501:=0
def tw1884462522933055965:=0
def tw11686674208556117823:=0
def tw8564146610470383965:=0
def tw15903251955529917801:=0
def tw14321910335606765040:=0
def tw18063292965498111751:=0
def tw6800256701386965084:=0
def tw4261552201208269811:=0
def tw11854759744767913228:=0
def tw10023660539091074864:=0
def tw4655877806355438230:=0
def tw13673561040887563879:=0
def tw17361512840380700550:=0
def tw11790176752964139238:=0
def tw14949609488504759381:=0
def tw4925711906941431443:=0
def tw8745900650476808266:=0
def tw1997170504312000051:=0
def tw9236124318604505211:=0
def tw7085228542254988977:=0
def tw3719130977953842726:=0
def tw4031255489409314914:=0
def tw7793468237791792102:=0
def tw16371144154423799290:=0
def tw15759526464770647407:=0
def tw3437866305981107603:=0
def tw13029460888778483078:=0
def tw7964113443165515067:=0
def tw8932034486887027333:=0
def tw351157785514066483:=0
def tw9614505168278973613:=0
def tw2471464590008952916:=0
def tw11549509210859767909:=0
def tw1807271198196591474:=0
def tw9737270333941799216:=0
def tw13088024985765485215:=0
def tw15942308409901726387:=0
def tw2905788975229092005:=0
def tw1760787667901973077:=0
def tw8987207800478459735:=0
def tw8323992714539945652:=0
def tw1268798379825889439:=0
def tw11476462824048498612:=0
def tw4357631307610042412:=0
def tw11374243533743075858:=0
def tw12670347350306657381:=0
def tw6391309354221305009:=0
def tw16401343154722051762:=0
def tw1848121456785172399:=0
def tw2192174951745678834:=0
def tw9716106944544100748:=0
def tw4958319700103472329:=0
def tw2679383361546079157:=0
def tw2870134493017028279:=0
def tw8209011257317553448:=0
def tw7899884162924124935:=0
def tw5085792377533184335:=0
def tw10705777126675675939:=0
def tw13327231449673196847:=0
def tw16896878531508867497:=0
def tw17020261666380651278:=0
def tw9062111484741415342:=0
def tw11333720208474766007:=0
def tw4663979401757491306:=0
def tw10735268555565719641:=0
def tw839509491741183285:=0
def tw1474921183591173002:=0
def tw8405657034804024215:=0
def tw4621189742751323693:=0
def tw207197861920013808:=0
def tw8751950889713803281:=0
def tw8192713217631115270:=0
def tw15132284379684480596:=0
def tw10821833211046326744:=0
def tw793165077504438712:=0
def tw5982818931120615271:=0
def tw14493191553287296068:=0
def tw10747521558371768857:=0
def tw9197703123527086234:=0
def tw2695801696328060208:=0
def tw7060419857508303370:=0
def tw8260594272927870643:=0
def tw16366933321874731243:=0
def tw10466462142070048127:=0
def tw13329843280222830476:=0
def tw5658435261420859901:=0
def tw14103639828402027276:=0
def tw1347583279953261947:=0
def tw10754582681959930281:=0
def tw4434305340422123184:=0
def tw3122248756330826093:=0
def tw13896163969898765243:=0
def tw5643892271660602941:=0
def tw8062461339437778233:=0
def tw9584774106101035457:=0
def tw8136321204329443041:=0
def tw12197221851377270889:=0
def tw13534746903654427546:=0
def tw662526830167388145:=0
def tw13289191117002009779:=0
def tw10818164883701468387:=0
def tw10993456548192456409:=0
def tw337465604703482093:=0
def tw4159421719894117649:=0
def tw9203722152399264553:=0
def tw6003122043651586257:=0
def tw7573686878155887724:=0
end PySem.W.Fast
set_option maxRecDepth 100000 in
set_option maxHeartbeats 0 in
theorem PySem.Challenge.cw_findcourt_k14_pieces_as_bytes_holds : PySem.Challenge.rw_findcourt_k14_pieces_as_bytes.Holds := by
 w_on;o_law;k_head;(case hw=>w_witness2)
 k_fill
 refine K14.walk (l:=PySem.Challenge.rw_findcourt_k14_pieces_as_bytes) rfl rfl (fun w h Y=>PySem.W.kIn_of Y) ?F
 case F=>
  intro w mg fa h KX G hmg
  refine' K14.all_mk (tk0:=0) KX G hmg ?_ ?_ ?_ ?_ ?_ ?_ ?_ ?_ ?_ ?_ ?_ ?_ ?_ ?_ ?_ ?_ ?_ ?_ ?_ ?_ ?_ ?_ ?_ ?_ ?_ ?_ ?_ ?_ ?_ ?_ ?_ ?_ ?_ ?_ ?_ ?_ ?_ ?_ ?_ ?_ ?_ ?_ ?_ ?_ ?_ ?_ ?_ ?_ ?_ ?_ ?_ ?_ ?_ ?_ ?_ ?_ ?_ ?_ ?_ ?_ ?_ ?_ ?_ ?_ ?_ ?_ ?_ ?_ ?_ ?_ ?_ ?_ ?_ ?_ ?_ ?_ ?_ ?_ ?_ ?_ ?_ ?_ ?_ ?_ ?_ ?_ ?_ ?_ ?_ ?_ ?_ ?_ ?_ ?_ ?_ ?_ ?_ ?_ ?_ ?_ ?_ ?_ ?_ ?_ ?_ ?_ ?_ ?_ ?_ ?_ ?_ ?_ ?_ ?_ ?_ ?_ ?_ ?_ ?_ ?_ ?_ ?_ ?_ ?_ ?_ ?_ ?_ ?_ ?_ ?_ ?_ ?_ ?_ ?_ ?_ ?_ ?_ ?_ ?_ ?_ ?_ ?_ ?_ ?_ ?_ ?_ ?_ ?_ ?_ ?_ ?_ ?_ ?_ ?_ ?_ ?_ ?_ ?_ ?_ ?_ ?_ ?_ ?_ ?_ ?_ ?_ ?_ ?_ ?_ ?_ ?_ ?_ ?_ ?_ ?_ ?_ ?_
  all_goals try first|with_reducible exact rfl|k_is|kernel_rfl|exact L2.Qbl ⟨_,_,_,_,_,_,_,_,_,by first|k_is|kernel_rfl,by first|k_is|kernel_rfl,by first|k_is|kernel_rfl⟩
