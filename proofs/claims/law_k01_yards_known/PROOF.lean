import PyProof.Rows.All
import Wide.All
import OpenK.AllK
import Wide.FinOn
import PyProof.ReprRoads
import HandS.ForMost
import HandS.ForExc
import PyProof.CallFns
import PyProof.ReprLen
import PyProof.InstNe
import HandS.ExcField
import KE.KExcIs
import HandS.IsInst
import KE.KExcSuper
import HandS.More
import HandS.Strs
import HandS.StrMore
import HandS.Text
import HandS.Defaults
import HandS.MakeKwOnly
import HandS.Flow
import HandS.Style
import HandS.Comp
import HandS.HeadNt
import PyProof.EqKinds
import HandS.Wide
import HandS.Codes
import HandS.Iter
import HandS.TryOnly
import PyProof.NeKinds
import PyProof.StrOps2
import HandS.Head0
import HandS.Head1
import HandS.Head2
import HandS.HeadEnd
import HandS.HeadHook1
import HandS.HeadHook2
import PySem.Challenge.RW_wearybeams_k01_yards_known
/-! WbGuard -/
set_option Elab.async false
set_option linter.all false
set_option maxRecDepth 100000
set_option maxHeartbeats 4000000
/-! The guards of repr: a promise that holds where no repr is under way (WG), its call, its body's rule, the law's end; repr of data. -/
namespace L2.Wb
open PySem PySem.Spec PyProof.Rows
/-- as FnOk, called where no repr is under way -/
structure WG (P : Program) (w : World) (K : PySem.W.Frag) (mg : Str → Option Value) (base : Heap) (CX : CXT) (k : Nat) (f : Addr) (fd : FuncData) (ps : List Str) (sp : Sp) : Prop where
  wlen : ∀ vs H Q E, sp vs H Q E → vs.length = ps.length
  wrun : ∀ (A : Around) (out : List Env) (s : Shared) (H : Hp) (ar : Args) (us : List Value) (vs : List V) (Q : VK) (E : XK), A.guards = some [] → Room k A → Env0 P w K mg base A out s H → BindsTo s fd ar (ps.zip us) → Vals vs us → sp vs H Q E →
    codeAny (model P w) A (.call (.ref f) ar) (CR CX out P w H s Q E) s
section
variable {P : Program} {w : World} {K : PySem.W.Frag} {mg : Str → Option Value} {base : Heap} {CX : CXT}
theorem wg_of {k : Nat} {f : Addr} {nm qn : Str} {prm : Arguments} {bd : List Stmt} {sc : Scope} {dV kV doc pm cdv ct oc : Value} {an od : Option Addr} {osl : Array (Option Value)} {N ps : List Str} {sp : Sp}
    (lk : K.lookup f = some ⟨oc, od, .func (PySem.W.fnOf nm qn prm bd sc dV kV doc pm an cdv ct), osl⟩) (hcd : PySem.W.codeIn K cdv qn = true) (S : FnScope N ps sc) (len : ∀ vs H Q E, sp vs H Q E → vs.length = ps.length)
    (hb : ∀ (A : Around) (out : List Env) (s : Shared) (H : Hp) (vs : List V) (Q : VK) (E : XK), A.guards = some [] → Room k (A.deeper (envOfC qn sc s.heap.objs.size f cdv)) → sp vs H Q E →
      ∃ t, PSs (cxOf CX P w K mg base N qn sc f cdv A out s H E) bd t ∧ t { nx := fun _ H' => Q .non H', rt := Q } (start N vs) H) :
    WG P w K mg base CX (k + 1) f (PySem.W.fnOf nm qn prm bd sc dV kV doc pm an cdv ct) ps sp := by
  refine ⟨len, fun A out s H ar us vs Q E hgu hr e0 hbd r hsp => ?_⟩
  have old : ∀ b o, base.get? b = some o → s.heap.get? b = some o := fun b o e => (e0.bs b o e).1
  have KX := e0.mod.kin.keeps old
  have lim := e0.mod.nolimit.keeps old
  refine codeAny_call_function hr.depth (KX _ _ lk) rfl S.co S.gen rfl (PySem.W.codeRec_of KX hcd) (hbd _ _ _ _ ?_)
  refine wpAny_newFunctionEnv_cells S.kind (fun y hy => (S.par y.1 (List.of_mem_zip hy).1).imp id fun q => ⟨q, PySem.W.cellsFrom_some _ _ _ (.inl q)⟩) fun env he s1 x => ?_
  subst he
  refine ⟨lim.keeps x.toInCall.keep, codeAny_func ?_⟩
  obtain ⟨t, ht, hq⟩ := hb A out s H vs Q E hgu (hr.deeper _) hsp
  refine wpAny_mono (ht.run [] s1 (start N vs) H _ (inv_start S hr.hd e0 (len _ _ _ _ hsp) r x) hq) (fun fl s' hs => ?_) fun _ _ z => z
  match fl, hs with
  | .ret u, ⟨v, σ', H', J, rv, q⟩ => exact ⟨v, H', J.os, J.bare, J.base, J.hok, rv, q⟩
  | .next, ⟨σ', H', J, q⟩ => exact ⟨V.non, H', J.os, J.bare, J.base, J.hok, rfl, q⟩
  | .brk, ⟨_, _, _, q⟩ => exact q.elim
  | .cont, ⟨_, _, _, q⟩ => exact q.elim
/-- THE RULE for such a def that raises nothing -/
theorem fun_wg {x qn : Str} {st : Stmt} {f : Addr} {fd : FuncData} {N ps : List Str} {k : Nat} {sp : Sp} (F : Fun K x qn st f fd) (S : FnScope N ps (defScope st)) (len : ∀ vs H Q E, sp vs H Q E → vs.length = ps.length)
    (hb : ∀ (cdv : Value) (A : Around) (out : List Env) (s : Shared) (H : Hp) (vs : List V) (Q : VK) (E : XK), A.guards = some [] → Room k (A.deeper (envOfC qn (defScope st) s.heap.objs.size f cdv)) → sp vs H Q E →
      ∃ t, PSs (cxOf CX P w K mg base N qn (defScope st) f cdv A out s H E) (defBody st) t ∧ t { nx := fun _ H' => Q .non H', rt := Q } (start N vs) H) : WG P w K mg base CX (k + 1) f fd ps sp := by
  obtain ⟨oc, od, kV, doc, pm, an, cdv, ct, osl, rfl, lk, hcd⟩ := F.ex
  exact wg_of lk hcd S len fun A out s H vs Q E hgu hr hsp => hb cdv A out s H vs Q E hgu hr hsp
end
section
variable {X : Cx} {CX : CXT} {k : Nat} {f : Addr} {fd : FuncData} {ps : List Str} {sp : Sp} {E : XK} {x : Str} {p pos : Pos} {e : Expr} {es : List Expr} {t : TA}
theorem wg_run {pins : List (Addr × Obj)} {σ : St} {H : Hp} {s : Shared} {Q : VK} {us : List Value} {vs : List V} (F : WG X.prog X.w X.K X.mg X.base CX k f fd ps sp) (hgu : X.A.guards = some []) (hr : Room k X.A) (hb : Binds X.K fd ps []) (hx : Passes CX X E) (I : Inv X pins σ H s) (r : Vals vs us) (h : sp vs H Q E) :
    wpAny (model X.prog X.w) X.A (call (.ref f) us) (EP X pins σ Q) X.xe s := by
  have hl : (us ++ []).length = ps.length := by rw [List.append_nil, ← r.length]; exact F.wlen _ _ _ _ h
  have hbb := hb s us I.kIn hl
  rw [List.append_nil] at hbb
  refine wpAny_call (codeAny_mono (F.wrun X.A X.stack s H ⟨us, []⟩ us vs Q E hgu hr I.env0 hbb r h) fun z s' hq => ?_)
  match z, hq with
  | .error _, hq => exact hx pins σ H s _ s' I hq
  | .ok (.ret u), hq => exact I.after hq
  | .ok .next, hq => exact hq.elim
  | .ok .brk, hq => exact hq.elim
  | .ok .cont, hq => exact hq.elim
theorem pe_callWG (F : WG X.prog X.w X.K X.mg X.base CX k f fd ps sp) (hgu : X.A.guards = some []) (hr : Room k X.A) (hg : Gl X x) (hm : X.mg x = some (.ref f)) (hk : PySem.W.keepIn X.K (.ref f) = true) (hb : Binds X.K fd ps []) (hx : Passes CX X E) (ha : PA X (e :: es) t)
    (hdb : (x == ("__debug__" : Str)) = false := by decide) (he : starEach (e :: es) X.env = (false, eval e X.env) :: starEach es X.env := by rfl) (hpl : (backTo pos (starEach es X.env)).any (·.1) = false := by rfl) : PE X (.Call (.Name x p) (e :: es) [] pos) (tCall sp [] E t) :=
  ⟨fun pins s σ H Q I h => wpAny_Call_Name_kw (ld_glob I hg hm (PySem.W.callWith_K (h₀ := X.base) I.ok.mod.kin hk (thn (ha.run pos pins s σ H _ I h) fun us s1 ⟨vs, H1, I1, r, q⟩ => ⟨I1.kIn, wg_run F hgu hr hb hx I1 r (by have q' : sp (vs ++ []) H1 Q E := q; rw [List.append_nil] at q'; exact q')⟩) he hpl) hdb)⟩
end
end L2.Wb
/-! WbEnd -/
set_option Elab.async false
set_option linter.all false
set_option maxRecDepth 100000
set_option maxHeartbeats 4000000
namespace L2.Wb
open PySem PySem.Spec PyProof.Rows
/-- the script's own list in an abstract heap -/
def scrH (a : Addr) (vs : List Value) (ns : List Int) (t : Bool) : Hp := fun b => if t = true ∧ b = a then some (.frz { cls := .type "list", data := .seq vs.toArray } (.lst (ns.map V.int))) else none
/-- the law's call, where no repr is under way -/
theorem law_wg {P : Program} {w : World} {K : PySem.W.Frag} {mg mb : Str → Option Value} {CX : CXT} {k : Nat} {fa a : Addr} {fd : FuncData} {x : Str} {sp : Sp} {z : Shared} {vs : List Value} {ns : List Int}
    (KX : K.In z.heap) (hns : z.heap.Ns mainGlobals mg) (hb : z.heap.Ns builtinsNs mb) (hbb : ∀ x : Str, x ≠ "__name__" → mb x = bootBuiltins x) (hlim : z.heap.NoLimit) (hg : z.gens = #[])
    (ha : z.heap.get? a = some { cls := .type "list", data := .seq vs.toArray }) (hi : IntsAre vs ns) (hl : ns.length ≤ sizeLine) (hr : Room k callerA)
    (F : ∀ base : Heap, K.In base → base.Ns mainGlobals mg → WG P w K mg base CX k fa fd [x] sp) (hbd : ∀ (s : Shared) (u : Value), BindsTo s fd ⟨[u], []⟩ [(x, u)])
    (hsp : ∀ H : Hp, Only H → SqL K H a (ns.map V.int) → sp [.ref a] H (fun v _ => v = .bl true) fun _ _ _ => False) (hCX : ∀ H e s', CX [] H z (fun _ _ _ => False) e s' → False) :
    codeAny (model P w) callerA (.call (.ref fa) ⟨[.ref a], []⟩) (fun r s' => r = .ok (.ret (.bool true)) ∧ OldK z.heap s'.heap ∧ s'.os = z.os ∧ AllBare s'.gens) z := by
  have rv := vals_ints hi
  have core : ∀ t : Bool, (t = true → K.lookup a = none) → SqL K (scrH a vs ns t) a (ns.map V.int) →
      codeAny (model P w) callerA (.call (.ref fa) ⟨[.ref a], []⟩) (fun r s' => r = .ok (.ret (.bool true)) ∧ OldK z.heap s'.heap ∧ s'.os = z.os ∧ AllBare s'.gens) z := by
    intro t hK hS
    have cs : ∀ b, scrH a vs ns t b = none ∨ (b = a ∧ t = true ∧ scrH a vs ns t b = some (.frz { cls := .type "list", data := .seq vs.toArray } (.lst (ns.map V.int)))) := fun b => by
      by_cases c : t = true ∧ b = a
      · exact .inr ⟨c.2, c.1, if_pos c⟩
      · exact .inl (if_neg c)
    have hO : Only (scrH a vs ns t) := fun b => (cs b).imp id fun q => ⟨_, _, q.2.2⟩
    have hok : HOk P w (scrH a vs ns t) z.heap := fun b o e => by
      rcases cs b with q | ⟨rfl, _, q⟩
      · rw [q] at e; cases e
      · rw [q] at e; cases e
        exact ⟨ha, by rw [List.length_map]; exact hl, vs, _, rv, ha⟩
    have notA : ∀ {b : Addr} {o : Obj}, z.heap.get? b = some o → (b = a → t = true → False) → (hidT z.heap (scrH a vs ns t)).get? b = some o := fun {b o} e n => hidT_get e ((cs b).resolve_right fun q => n q.1 q.2.1)
    have nsK : ∀ {b : Addr} {m : Str → Option Value}, z.heap.Ns b m → (hidT z.heap (scrH a vs ns t)).Ns b m := fun {b m} ⟨o, es, ep, e, d, r⟩ => by
      refine ⟨o, es, ep, notA e fun q _ => ?_, d, r⟩
      subst q
      rw [ha] at e; cases e
      cases (show Data.seq vs.toArray _ = Data.dict es ep from d)
    have hKb : K.In (hidT z.heap (scrH a vs ns t)) := fun b o e => notA (KX b o e) fun q q2 => by
      subst q
      rw [hK q2] at e; cases e
    have hM : Mod K mg (hidT z.heap (scrH a vs ns t)) := ⟨hKb, nsK hns, ⟨mb, nsK hb, hbb⟩, let ⟨mc, h1, h2⟩ := hlim; ⟨mc, nsK h1, h2⟩⟩
    have e0 : Env0 P w K mg (hidT z.heap (scrH a vs ns t)) callerA [] z (scrH a vs ns t) := ⟨rfl, hM, fun b o e => of_hidT e, Nat.le_of_eq (hidT_size _ _), trivial, (fun b hb => absurd (show b ∈ ([] : List Addr) from hb) List.not_mem_nil), hok, .of_eq hg⟩
    refine codeAny_mono ((F _ hKb (nsK hns)).wrun callerA [] z _ ⟨[.ref a], []⟩ [.ref a] [.ref a] _ _ rfl hr e0 (hbd z (.ref a)) (.cons rfl .nil) (hsp _ hO hS)) fun r s' h => ?_
    match r, h with
    | .error e, h => exact (hCX _ e s' h).elim
    | .ok .next, h => exact h.elim
    | .ok .brk, h => exact h.elim
    | .ok .cont, h => exact h.elim
    | .ok (.ret u), ⟨v, H', os, bare, un, hok', r', q⟩ =>
      obtain rfl : v = .bl true := q
      obtain rfl : u = Value.bool true := r'
      refine ⟨rfl, OldK.of_keep fun b o e => ?_, os, bare⟩
      rcases cs b with q | ⟨rfl, _, q⟩
      · exact un.keep b o e q (fun z => absurd (show b ∈ ([] : List Addr) from z) List.not_mem_nil) (by simp)
      · rw [ha] at e; cases e
        exact (hok' b _ (un.frzs b _ _ q)).1
  cases hk : K.lookup a with
  | some o =>
    have e := KX a o hk
    rw [ha] at e; cases e
    exact core false (fun q => nomatch q) (.inr ⟨_, vs.toArray, _, hk, rfl, rfl, rfl, by rw [List.size_toArray, hi.length]; exact hl, by simpa using rv⟩)
  | none => exact core true (fun _ => hk) (.inl (.inr ⟨_, if_pos ⟨rfl, rfl⟩⟩))
theorem walk_wg {l : PySem.W.OpenLaw} {n k : Nat} {q : Program} {loose : List Str} {XP : (Str → Option Value) → Heap → Prop} {YP : World → Heap → Prop} {d : DefRec} {K : Params → PySem.W.Frag} {CX : World → CXT} {sp : World → Sp} {x : Str}
    (hn : l.most = some n) (hn2 : n ≤ sizeLine) (hdf : d.params.defaults = []) (hr : Room k callerA) (hY : ∀ (w : World) (h : Heap), YP w h → (K w.params).In h)
    (F : ∀ (w : World) (mg : Str → Option Value) (fa : Addr) (h : Heap), (K w.params).In h → h.Ns mainGlobals mg → mg d.name = some (.ref fa) → ∃ fd : FuncData, (∀ (s : Shared) (u : Value), BindsTo s fd ⟨[u], []⟩ [(x, u)]) ∧
        ∀ base : Heap, (K w.params).In base → base.Ns mainGlobals mg → WG l.prog w (K w.params) mg base (CX w) k fa fd [x] (sp w))
    (hsp : ∀ (w : World) (H : Hp) (a : Addr) (ns : List Int), ns.length ≤ n → Only H → SqL (K w.params) H a (ns.map V.int) → sp w [.ref a] H (fun v _ => v = .bl true) fun _ _ _ => False)
    (hCX : ∀ (w : World) (H : Hp) (s : Shared) (e : Value) (s' : Shared), CX w [] H s (fun _ _ _ => False) e s' → False) : PySem.W.WalkO q loose XP YP l.row.toRowW d [] (fun f vs => PySem.call f vs) :=
  Att.attach_call hn hdf fun w s₀ z mg mb fa o pm cd doc a vs ns G Y ho hd hcd hmg hobj hints hlen hg => by
    obtain ⟨fd, hb, hF⟩ := F w mg fa _ (hY w _ Y) G.T.g hmg
    exact law_wg (hY w _ Y) G.T.g G.T.b G.T.builtins G.T.nolimit hg hobj hints (Nat.le_trans hlen hn2) hr hF hb (fun H hO hS => hsp w H a ns hlen hO hS) fun H e s' => hCX w H z e s'
end L2.Wb
/-! WbRepr -/
set_option Elab.async false
set_option linter.all false
set_option maxRecDepth 100000
set_option maxHeartbeats 4000000
namespace L2.Wb
open PySem PySem.Spec PyProof.Rows
mutual
/-- the data that stands at a value: lists, tuples and dicts that are tracked -/
inductive Dx (H : Hp) : V → PyData → Prop
  | non : Dx H .non .none
  | bl (b : Bool) : Dx H (.bl b) (.bool b)
  | int (i : Int) : Dx H (.int i) (.int i)
  | str (x : Str) : Dx H (.str x) (.str x)
  | lst {a : Addr} {xs : List V} {ds : List PyData} : H a = some (.lst xs) → DxAll H xs ds → Dx H (.ref a) (.list ds)
  | tup {a : Addr} {xs : List V} {ds : List PyData} : H a = some (.tup xs) → DxAll H xs ds → Dx H (.ref a) (.tuple ds)
  | dct {a : Addr} {kvs : List (Key × V)} {ps : List (PyData × PyData)} : H a = some (.dK kvs) → DxKv H kvs ps → Dx H (.ref a) (.dict ps)
inductive DxAll (H : Hp) : List V → List PyData → Prop
  | nil : DxAll H [] []
  | cons {v : V} {vs : List V} {d : PyData} {ds : List PyData} : Dx H v d → DxAll H vs ds → DxAll H (v :: vs) (d :: ds)
inductive DxKv (H : Hp) : List (Key × V) → List (PyData × PyData) → Prop
  | nil : DxKv H [] []
  | int {i : Int} {v : V} {r : List (Key × V)} {d : PyData} {ps : List (PyData × PyData)} : Dx H v d → DxKv H r ps → DxKv H ((Sum.inl i, v) :: r) ((.int i, d) :: ps)
  | str {x : Str} {v : V} {r : List (Key × V)} {d : PyData} {ps : List (PyData × PyData)} : Dx H v d → DxKv H r ps → DxKv H ((Sum.inr x, v) :: r) ((.str x, d) :: ps)
end
section
variable {X : Cx} {pins : List (Addr × Obj)} {σ : St} {H : Hp} {s : Shared}
theorem not_sys (I : Inv X pins σ H s) (hs : (X.K.lookup sysModules).isSome = true) {a : Addr} {o : HO} (h : H a = some o) : a ≠ sysModules := by
  rintro rfl
  obtain ⟨ob, e⟩ := Option.isSome_iff_exists.mp hs
  have z := (I.bs _ _ (I.mod.kin _ _ e)).2
  rw [h] at z; cases z
theorem nin_app {as bs : List Addr} {a : Addr} (h1 : a ∉ as) (h2 : a ∉ bs) : a ∉ as ++ bs := fun h => (List.mem_append.mp h).elim h1 h2
mutual
theorem Dx.reads (I : Inv X pins σ H s) (hs : (X.K.lookup sysModules).isSome = true) : ∀ (d : PyData) (v : V) (u : Value), Dx H v d → RelV v u → ∃ as, Reads s.heap u d as ∧ sysModules ∉ as
  | .none, _, _, .non, r => by cases r; exact ⟨_, Reads.none, List.not_mem_nil⟩
  | .bool b, _, _, .bl _, r => by cases r; exact ⟨_, Reads.bool b, List.not_mem_nil⟩
  | .int i, _, _, .int _, r => by obtain ⟨t, rfl⟩ := r; exact ⟨_, Reads.int i t, List.not_mem_nil⟩
  | .str x, _, _, .str _, r => by obtain ⟨t, rfl⟩ := r; exact ⟨_, Reads.str x t, List.not_mem_nil⟩
  | .list ds, _, _, .lst h ha, r => by
    cases r
    obtain ⟨_, its, n, rv, ho⟩ := I.hok _ _ h
    obtain ⟨as, hr, hn⟩ := DxAll.reads I hs ds _ its ha rv
    exact ⟨_, Reads.list ho rfl rfl hr, fun hm => (List.mem_cons.mp hm).elim (fun e => not_sys I hs h e.symm) hn⟩
  | .tuple ds, _, _, .tup h ha, r => by
    cases r
    obtain ⟨_, its, rv, o, ho, hc, n, hd⟩ := I.hok _ _ h
    obtain ⟨as, hr, hn⟩ := DxAll.reads I hs ds _ its ha rv
    exact ⟨_, Reads.tuple ho hc hd hr, hn⟩
  | .dict ps, _, _, .dct h ha, r => by
    cases r
    obtain ⟨_, _, vs, kv, o, es, ep, ho, hx, hd, _, pr, _⟩ := I.hok _ _ h
    obtain ⟨as, bs, h1, h2, n1, n2⟩ := DxKv.reads I hs ps _ vs es.toList ha kv pr
    exact ⟨_, Reads.dict ho hx.1 hd h1 h2, nin_app (fun hm => (List.mem_cons.mp hm).elim (fun e => not_sys I hs h e.symm) n1) n2⟩
theorem DxAll.reads (I : Inv X pins σ H s) (hs : (X.K.lookup sysModules).isSome = true) : ∀ (ds : List PyData) (vs : List V) (us : List Value), DxAll H vs ds → Vals vs us → ∃ as, ReadsAll s.heap us ds as ∧ sysModules ∉ as
  | [], _, _, .nil, r => by cases r; exact ⟨_, ReadsAll.nil, List.not_mem_nil⟩
  | d :: ds, _, _, .cons h1 h2, r => by
    cases r with
    | cons r1 r2 =>
      obtain ⟨as, q1, n1⟩ := Dx.reads I hs d _ _ h1 r1
      obtain ⟨bs, q2, n2⟩ := DxAll.reads I hs ds _ _ h2 r2
      exact ⟨_, ReadsAll.cons q1 q2, nin_app n1 n2⟩
theorem DxKv.reads (I : Inv X pins σ H s) (hs : (X.K.lookup sysModules).isSome = true) : ∀ (ps : List (PyData × PyData)) (kvs : List (Key × V)) (vs : List (Key × Value)) (es : List DictEntry), DxKv H kvs ps → KV kvs vs → Pairs (mixKind X.prog X.w) es vs →
    ∃ as bs, ReadsAll s.heap (es.map (·.key)) (ps.map (·.1)) as ∧ ReadsAll s.heap (es.map (·.val)) (ps.map (·.2)) bs ∧ sysModules ∉ as ∧ sysModules ∉ bs
  | [], _, _, _, .nil, r, p => by cases r; cases p; exact ⟨_, _, ReadsAll.nil, ReadsAll.nil, List.not_mem_nil, List.not_mem_nil⟩
  | (.int i, d) :: ps, _, _, _, .int h1 h2, r, p => by
    cases r with
    | cons r1 r2 =>
      cases p with
      | cons k1 k2 p2 =>
        obtain ⟨as, bs, q1, q2, n1, n2⟩ := DxKv.reads I hs ps _ _ _ h2 r2 p2
        rw [← r1.1, mixKind_is] at k1
        obtain ⟨t, ek⟩ := Value.isInt_shape (show Value.isInt i _ = true from k1)
        obtain ⟨cs, q3, n3⟩ := Dx.reads I hs d _ _ h1 r1.2
        refine ⟨_, _, ReadsAll.cons (by dsimp only; rw [ek]; exact Reads.int i t) q1, ReadsAll.cons (by dsimp only; rw [k2]; exact q3) q2, nin_app List.not_mem_nil n1, nin_app n3 n2⟩
  | (.str x, d) :: ps, _, _, _, .str h1 h2, r, p => by
    cases r with
    | cons r1 r2 =>
      cases p with
      | cons k1 k2 p2 =>
        obtain ⟨as, bs, q1, q2, n1, n2⟩ := DxKv.reads I hs ps _ _ _ h2 r2 p2
        rw [← r1.1, mixKind_is] at k1
        obtain ⟨t, ek⟩ := Value.isStrOf_shape (show Value.isStrOf x _ = true from k1)
        obtain ⟨cs, q3, n3⟩ := Dx.reads I hs d _ _ h1 r1.2
        refine ⟨_, _, ReadsAll.cons (by dsimp only; rw [ek]; exact Reads.str x t) q1, ReadsAll.cons (by dsimp only; rw [k2]; exact q3) q2, nin_app List.not_mem_nil n1, nin_app n3 n2⟩
end
end
/-- what repr shows without a bound being met -/
structure Shw (d : PyData) : Prop where
  sh : d.showable = true
  le : d.leavesShort 60 = true
  wt : d.weight ≤ 200000
  dp : d.depth ≤ 40
theorem Shw.size {d : PyData} (h : Shw d) : d.shown.length ≤ sizeLine := by
  have h1 := PyData.shown_le 60 (by decide) d h.le
  have h2 : (60 + 2) * d.weight ≤ 62 * 200000 := Nat.mul_le_mul (by omega) h.wt
  rw [sizeLine_eq]
  omega
/-- repr(x) of data -/
def rReprD : List V → Hp → VK → Prop := fun xs H Q => ∃ x d, xs = [x] ∧ Dx H x d ∧ Shw d ∧ Q (.str d.shown) H
theorem call_reprD {X : Cx} {k : Nat} (hgu : X.A.guards = some []) (hr : Room k X.A) (hs : (X.K.lookup sysModules).isSome = true) : CallR X (.builtin "repr") rReprD := by
  intro pins s σ H xs us Q I r h
  obtain ⟨x, d, rfl, hd, hw, q⟩ := h
  obtain ⟨u, rfl, ru⟩ := vals1 r
  have hsz := hw.size
  have hun := hr.units
  obtain ⟨as, rd, na⟩ := hd.reads I hs d x u ru
  have fin : ∀ (t : Tok) (s' : Shared), Inv X pins σ H s' → EP X pins σ Q (.str d.shown t) s' := fun t s' J => ⟨.str d.shown, H, J, ⟨t, rfl⟩, q⟩
  cases hd with
  | non => cases (show u = Value.none from ru); exact PySem.P.repr_of_none (fin _ _ (I.tok _))
  | bl b => cases (show u = Value.bool b from ru); exact PySem.P.repr_of_bool (fin _ _ (I.tok _))
  | int i => obtain ⟨t, rfl⟩ := (show ∃ t, u = Value.int i t from ru); exact PySem.P.repr_of_int (by simpa only [PyData.showable, decide_eq_true_eq] using hw.sh) (fin _ _ (I.tok _))
  | str y => obtain ⟨t, rfl⟩ := (show ∃ t, u = Value.str y t from ru); exact PySem.P.repr_of_str (fin _ _ (I.tok _)) hsz
  | lst h1 h2 => cases (show u = Value.ref _ from ru); exact repr_of_reads' rd hw.sh (fun _ => na) hgu (by have := hw.dp; omega) (fun _ _ e => e) (fun h' u tk k => fin _ _ (I.kept (t' := tk) k)) hsz
  | tup h1 h2 => cases (show u = Value.ref _ from ru); exact repr_of_reads' rd hw.sh (fun _ => na) hgu (by have := hw.dp; omega) (fun _ _ e => e) (fun h' u tk k => fin _ _ (I.kept (t' := tk) k)) hsz
  | dct h1 h2 => cases (show u = Value.ref _ from ru); exact repr_of_reads' rd hw.sh (fun _ => na) hgu (by have := hw.dp; omega) (fun _ _ e => e) (fun h' u tk k => fin _ _ (I.kept (t' := tk) k)) hsz
/- an extension keeps data -/
mutual
theorem Dx.same {H H' : Hp} (e : Same H H') : ∀ {v : V} {d : PyData}, Dx H v d → Dx H' v d
  | _, _, .non => .non
  | _, _, .bl b => .bl b
  | _, _, .int i => .int i
  | _, _, .str x => .str x
  | _, _, .lst h a => .lst (e _ _ h) (DxAll.same e a)
  | _, _, .tup h a => .tup (e _ _ h) (DxAll.same e a)
  | _, _, .dct h a => .dct (e _ _ h) (DxKv.same e a)
theorem DxAll.same {H H' : Hp} (e : Same H H') : ∀ {v : List V} {d : List PyData}, DxAll H v d → DxAll H' v d
  | _, _, .nil => .nil
  | _, _, .cons a b => .cons (Dx.same e a) (DxAll.same e b)
theorem DxKv.same {H H' : Hp} (e : Same H H') : ∀ {v : List (Key × V)} {d : List (PyData × PyData)}, DxKv H v d → DxKv H' v d
  | _, _, .nil => .nil
  | _, _, .int a b => .int (Dx.same e a) (DxKv.same e b)
  | _, _, .str a b => .str (Dx.same e a) (DxKv.same e b)
end
end L2.Wb
/-! WbEq -/
set_option Elab.async false
set_option linter.all false
set_option maxRecDepth 100000
set_option maxHeartbeats 4000000
/-! An instance's own == and != (by its own __eq__, the built-in __ne__), against anything. -/
namespace PySem.WbE
open PySem PySem.W PySem.Calls
section
variable {prog : Program} {w : World} {A : Around} {E : Value → Shared → Prop} {s : Shared} {K : Frag} {x C f : Addr} {b : Value} {ox : Obj} {odx : Option Obj} {tb : Value}
theorem not_entry (X : K.In s.heap) (I : InstAt s.heap x ox C odx) (he : findIn K (.ref C) "__eq__" = some (some (.ref f))) (hf : isFn K (.ref f) = true) (hu : A.units < cLine) {Q : Fin → Shared → Prop}
    (hc : wpAny (model prog w) A (call (.ref f) [.ref x, b]) (fun v s' => ∃ c, v = .bool c ∧ Q (.done (.ret (.bool (!c)))) s') E s) : wpAny (model prog w) A (Builtin.«object.__ne__» ⟨[.ref x, b], []⟩) Q E s := by
  unfold Builtin.«object.__ne__»
  repeat (first
    | with_reducible refine wpAny_cRoomFor hu ?_
    | (refine wpAny_bind (m := callSpecialIfBound? (.ref x) (Str.ofString "__eq__") [b]) (ifBound_K X I he hf (wpAny_mono hc (fun r s' hr => by
          obtain ⟨c, rfl, hq⟩ := hr
          repeat (first | exact hq | exact wpAny_pure hq | exact wpAny_truthy_bool hq | (refine wpAny_bind (m := truthy (.bool _)) (wpAny_truthy_bool ?_)) | wp_step)) fun _ _ e => e)))
    | wp_step)
theorem bound_slot {M : Model} {T : String} {name : Str} {id : String} {args : List Value} {Q : Option Value → Shared → Prop} (S : Slot T name id) (X : K.In s.heap) (I : InstAt s.heap x ox C odx) (hn : findIn K (.ref C) name = some (some (.builtin id)))
    (h : wpAny M A (call (.builtin id) (.ref x :: args)) (fun v => Q (some v)) E s) : wpAny M A (callSpecialIfBound? (.ref x) name args) Q E s := by
  simp only [callSpecialIfBound?, bindSpecialIfBound?]
  refine wpAny_holding (wpAny_bind (wpAny_bind (wpAny_bind (I.type.here ((looks_findIn X hn).here ?_)))))
  simp only [S.bind]
  refine wpAny_bind (wpAny_askSetting (wpAny_ite ?_))
  have fin : wpAny M A (call (.builtin id) ([.ref x] ++ args) >>= fun v => pure (some v)) Q E s := wpAny_bind (wpAny_mono h (fun v s' h' => wpAny_pure h') fun _ _ h' => h')
  split
  · exact wpAny_bind (wpAny_pure (wpAny_pure (by exact fin)))
  · exact wpAny_tryCatch (wpAny_bind (wpAny_pure (wpAny_pure (by exact fin))))
theorem not_try (X : K.In s.heap) (I : InstAt s.heap x ox C odx) (he : findIn K (.ref C) "__eq__" = some (some (.ref f))) (hf : isFn K (.ref f) = true) (hn : findIn K (.ref C) "__ne__" = some (some (.builtin "object.__ne__"))) (hm : mroIn K C (.type "object") = some true)
    (hu : A.units + 1 < cLine) {Q : Option Value → Shared → Prop} (hc : wpAny (model prog w) A.in1 (call (.ref f) [.ref x, b]) (fun v s' => ∃ c, v = .bool c ∧ Q (some (.bool (!c))) s') E s) : wpAny (model prog w) A (tryCompare (.ref x) "__ne__" b) Q E s := by
  have go : wpAny (model prog w) A (call (.builtin "object.__ne__") [.ref x, b]) (fun v s' => ∃ c, v = .bool c ∧ Q (some (.bool c)) s') E s :=
    wpAny_call (codeAny_call_builtin F.cmp_object.ne.plain F.cmpEntry_ne (check_slot F.cmpKind_ne F.cmpSplit_ne (I.type.andThen (looks_mroIn X hm)) (F.cmpArgs_ne _ _)
      (not_entry (A := A.in1) X I he hf hu (wpAny_mono hc (fun v s' ⟨c, e, q⟩ => ⟨c, e, ⟨_, rfl, q⟩⟩) fun _ _ e => e))))
  unfold tryCompare
  refine wpAny_bind (bound_slot F.cmp_object.ne X I hn (wpAny_mono go (fun v s' ⟨c, e, q⟩ => ?_) fun _ _ e => e))
  subst e
  exact wpAny_pure q
theorem not_cmp {Q : Value → Shared → Prop} (X : K.In s.heap) (I : InstAt s.heap x ox C odx) (he : findIn K (.ref C) "__eq__" = some (some (.ref f))) (hf : isFn K (.ref f) = true) (hn : findIn K (.ref C) "__ne__" = some (some (.builtin "object.__ne__"))) (hm : mroIn K C (.type "object") = some true)
    (hb : Looks (model prog w) s.heap (typeOf b) (.ref C)) (hu : A.units + 1 < cLine) (hc : wpAny (model prog w) A.in1 (call (.ref f) [.ref x, b]) (fun v s' => ∃ c, v = .bool c ∧ Q (.bool (!c)) s') E s) : wpAny (model prog w) A (compareOp .NotEq (.ref x) b) Q E s := by
  unfold compareOp richCompare
  simp only [oneThing_ref]
  refine wpAny_holding (wpAny_bind (wpAny_cRoomFor (Nat.lt_of_succ_lt hu) ?_))
  rw [cmpInfo_NotEq]
  dsimp only
  refine wpAny_bind (I.type.here (wpAny_bind (hb.here ?_)))
  rw [show (Value.ref C != Value.ref C) = false from by simp]
  simp only [Bool.false_eq_true, if_false]
  refine wpAny_bind (wpAny_pure ?_)
  simp only [Bool.false_eq_true, if_false]
  refine wpAny_bind (not_try X I he hf hn hm hu (wpAny_mono hc (fun v s' ⟨c, e, q⟩ => ⟨c, e, ?_⟩) fun _ _ e => e))
  first | exact wpAny_pure q | exact wpAny_pure (wpAny_pure q)
end
end PySem.WbE
namespace L2.Wb
open PySem PySem.Spec PyProof.Rows
/-- a class with an own __eq__, at f; the text's promise of it -/
structure OEq (K : PySem.W.Frag) (C f : Addr) : Prop where
  eq : PySem.W.findIn K (.ref C) "__eq__" = some (some (.ref f))
  fn : PySem.W.isFn K (.ref f) = true
  ne : PySem.W.findIn K (.ref C) "__ne__" = some (some (.builtin "object.__ne__"))
  mro : PySem.W.mroIn K C (.type "object") = some true
  str : PySem.W.notFirst K C (.type "str") = true
  lst : PySem.W.notFirst K C (.type "list") = true
/-- the other side of such an == -/
inductive Oth (H : Hp) (C : Addr) : V → Value → Prop
  | str (x : Str) : Oth H C (.str x) (.type "str")
  | lst {a : Addr} {xs : List V} (h : H a = some (.lst xs)) : Oth H C (.ref a) (.type "list")
  | ins {a dx : Addr} {fs : List (Str × V)} (h : H a = some (.ins C dx fs)) : Oth H C (.ref a) (.ref C)
section
variable {X : Cx} {CX : CXT} {n : Nat} {C f : Addr} {fd : FuncData} {ps : List Str} {sp : Sp} {E : XK}
theorem Oth.look {pins : List (Addr × Obj)} {σ : St} {H : Hp} {s : Shared} {y : V} {u t : Value} (o : Oth H C y t) (I : Inv X pins σ H s) (r : RelV y u) : PySem.W.Looks (model X.prog X.w) s.heap (typeOf u) t := by
  cases o with
  | str x => obtain ⟨t, rfl⟩ := r; exact PySem.W.Looks.of_pure rfl
  | lst h =>
    cases (show u = Value.ref _ from r)
    obtain ⟨its, k, _, g, _⟩ := I.lst h
    exact fun A Q E s k' q => wpAny_typeOf_ref (k' _ _ g) q
  | ins h =>
    cases (show u = Value.ref _ from r)
    obtain ⟨mB, J, _⟩ := ins_get I.hok h
    obtain ⟨od, J, _⟩ := J.look
    exact J.type
/-- a == y, a != y: the promise of __eq__ at the two, its answer or the other one -/
def rEqO (C : Addr) (sp : Sp) (E : XK) : R2 := fun x y H Q => ∃ a dx fs t, x = .ref a ∧ H a = some (.ins C dx fs) ∧ Oth H C y t ∧ sp [x, y] H (fun v H' => ∃ c, v = .bl c ∧ Q (.bl c) H') E
def rNeO (C : Addr) (sp : Sp) (E : XK) : R2 := fun x y H Q => ∃ a dx fs, x = .ref a ∧ H a = some (.ins C dx fs) ∧ Oth H C y (.ref C) ∧ sp [x, y] H (fun v H' => ∃ c, v = .bl c ∧ Q (.bl (!c)) H') E
theorem run_eq (F : FnOk X.prog X.w X.K X.mg X.base CX n f fd ps sp) (hb : Binds X.K fd ps []) (hx : Passes CX X E) {A : Around} (hr : Room n A) (hA : A.frames = X.A.frames) {pins : List (Addr × Obj)} {s : Shared} {σ : St} {H : Hp} {x y : V} {v u : Value} {Q : VK} (I : Inv X pins σ H s) (rx : RelV x v) (ry : RelV y u)
    (h : sp [x, y] H Q E) : wpAny (model X.prog X.w) A (call (.ref f) [v, u]) (EP X pins σ Q) X.xe s := by
  have e0 : Env0 X.prog X.w X.K X.mg X.base A X.stack s H := let e := I.env0; ⟨by rw [hA]; exact e.frames, e.mod, e.bs, e.bsz, e.funs, e.frf, e.hok, e.bare⟩
  have r2 : Vals [x, y] [v, u] := .cons rx (.cons ry .nil)
  have hbb := hb s [v, u] I.kIn (by simpa using F.len _ _ _ _ h)
  refine wpAny_call (codeAny_mono (F.run A X.stack s H ⟨[v, u], []⟩ [v, u] [x, y] Q E hr e0 (by simpa using hbb) r2 h) fun r s' hq => ?_)
  match r, hq with
  | .error e, hq => exact hx pins σ H s e s' I hq
  | .ok (.ret w), hq => exact I.after hq
  | .ok .next, hq => exact hq.elim
  | .ok .brk, hq => exact hq.elim
  | .ok .cont, hq => exact hq.elim
theorem op_eqO (O : OEq X.K C f) (F : FnOk X.prog X.w X.K X.mg X.base CX n f fd ps sp) (hr : Room n X.A) (hb : Binds X.K fd ps []) (hx : Passes CX X E) : OpR X (compareOp .Eq) (rEqO C sp E) := by
  intro pins s σ H x y v u Q I rx ry ⟨a, dx, fs, t, ex, ha, o, q⟩
  subst ex
  cases (show v = Value.ref a from rx)
  obtain ⟨mA, J, _⟩ := ins_get I.hok ha
  obtain ⟨od, J, _⟩ := J.look
  obtain ⟨m, hF⟩ := I.fr
  have hn : PySem.W.notFirst X.K C t = true := by
    cases o with
    | str x => exact O.str
    | lst h => exact O.lst
    | ins h => simp [PySem.W.notFirst]
  show wpAny _ _ (richCompare .Eq (.ref a) u) _ _ _
  refine PySem.W.cmp_K (op := .Eq) hr.units0 hF I.ok.mod.kin J (o.look I ry) hn O.eq O.fn (thn (run_eq (x := .ref a) F hb hx hr rfl I (show RelV (.ref a) (.ref a) from rfl) ry q) fun w s' hw => ?_)
  obtain ⟨z, H', I', rz, c, ec, q'⟩ := hw
  subst ec
  cases rz
  exact ⟨.bl c, H', I', rfl, q'⟩
theorem op_neO (O : OEq X.K C f) (F : FnOk X.prog X.w X.K X.mg X.base CX n f fd ps sp) (hr : Room (n + 1) X.A) (hb : Binds X.K fd ps []) (hx : Passes CX X E) : OpR X (compareOp .NotEq) (rNeO C sp E) := by
  intro pins s σ H x y v u Q I rx ry ⟨a, dx, fs, ex, ha, o, q⟩
  subst ex
  cases (show v = Value.ref a from rx)
  obtain ⟨mA, J, _⟩ := ins_get I.hok ha
  obtain ⟨od, J, _⟩ := J.look
  have hun := hr.units
  refine PySem.WbE.not_cmp I.kIn J O.eq O.fn O.ne O.mro (o.look I ry) (by omega) (thn (run_eq (x := .ref a) F hb hx hr.in1 rfl I (show RelV (.ref a) (.ref a) from rfl) ry q) fun w s' hw => ?_)
  obtain ⟨z, H', I', rz, c, ec, q'⟩ := hw
  subst ec
  cases rz
  exact ⟨c, rfl, .bl (!c), H', I', rfl, q'⟩
end
end L2.Wb
/-! WbHeld -/
set_option Elab.async false
set_option linter.all false
set_option maxRecDepth 100000
set_option maxHeartbeats 4000000
/-! try .. except X as n: suite, behind which the exception that came is still held (by another name): it is tracked from there on. Its fields, its isinstance. -/
namespace L2.Wb
open PySem PySem.Spec PyProof.Rows
/-- an exception that was caught: its class, its dict -/
def exh (cls : Value) (d : Option Addr) (a : Addr) : HO := .ext fun h => ∃ (oe : Obj) (vs : Array Value), h.get? a = some oe ∧ Zc cls d oe ∧ oe.data = .fields vs
theorem exh_ok {P : Program} {w : World} {H : Hp} {h : Heap} {a : Addr} {cls : Value} {d : Option Addr} {oe : Obj} {vs : Array Value} (e : h.get? a = some oe) (z : Zc cls d oe) (f : oe.data = .fields vs) : ObjOk P w H h a (exh cls d a) :=
  ⟨⟨oe, vs, e, z, f⟩, ⟨oe, e⟩, fun _ _ ⟨o, v, e1, z1, f1⟩ k => ⟨o, v, k _ e1, z1, f1⟩⟩
section
variable {X : Cx} {pins : List (Addr × Obj)} {σ : St} {H : Hp} {s : Shared}
theorem Inv.held {a : Addr} {o : HO} {oe : Obj} {vs : Array Value} (I : Inv X pins σ H s) (e : s.heap.get? a = some oe) (hd : oe.data = .fields vs) (na : H a = none) (h0 : X.s_0.heap.get? a = none) (nL : a ≠ X.env.locals) (np : ∀ p ∈ X.pn ++ pins, p.1 ≠ a)
    (new : ObjOk X.prog X.w (upd H a o) s.heap a o) : Inv X pins σ (upd H a o) s := by
  have ne0 : ∀ b u, X.s_0.heap.get? b = some u → b ≠ a := fun b u q z => by rw [z, h0] at q; cases q
  have neH : ∀ b u, H b = some u → b ≠ a := fun b u q z => by rw [z, na] at q; cases q
  refine ⟨I.ok, I.os, I.bare, ⟨I.base.keep, I.base.slot, fun b u q n hx => by rw [upd_ne (ne0 b u q)]; exact I.base.free b u q n hx, I.base.there, fun b xs q => ?_, fun b u xs q => ?_, fun b ps q => ?_⟩, I.loc, I.cell, by rw [upd_ne nL.symm]; exact I.free, fun x c q => ?_, fun p hp => ?_, fun b u q => ?_, I.len⟩
  · have z := I.base.tups b xs q
    rw [upd_ne (neH b _ z)]; exact z
  · have z := I.base.frzs b u xs q
    rw [upd_ne (neH b _ z)]; exact z
  · obtain ⟨m, z⟩ := I.base.tbls b ps q
    exact ⟨m, by rw [upd_ne (neH b _ z)]; exact z⟩
  · obtain ⟨v, oc, e1, e2⟩ := I.cell x c q
    rw [upd_ne fun z => by rw [z, e] at e1; cases e1; rw [hd] at e2; cases e2]
    exact I.freeC x c q
  · obtain ⟨p1, p2, p3⟩ := I.pin p hp
    exact ⟨p1, by rw [upd_ne (np p hp)]; exact p2, p3⟩
  · by_cases hb : b = a
    · subst hb
      rw [upd_same] at q; cases q
      exact new
    · rw [upd_ne hb] at q
      exact (I.hok b u q).stay (fun _ _ _ r => r) (fun c r => by rw [upd_ne (neH c _ r)]; exact r) fun c xs r => by rw [upd_ne (neH c _ r)]; exact r
end
/-- the wish of an exception: as wAs, the exception tracked behind the suite -/
def wHeld (K : PySem.W.Frag) (c : Value) (i : Nat) (ts : Addr → Value → Option Addr → TS) (Wout : WX) (D : Ends) : WX := fun cls d σ H =>
  ∃ b, PySem.W.exmOne K cls c = some b ∧ (b = true → ∀ a, H a = none → ts a cls d { nx := fun σ' H' => H' a = none → D.nx (σ'.set i none) (upd H' a (exh cls d a)), rt := D.rt, bk := fun _ _ => False, ct := fun _ _ => False } (σ.set i (some (.ref a))) H) ∧ (b = false → Wout cls d σ H)
section
variable {X : Cx} {x n : Str} {c : Value} {i : Nat} {body suite : List Stmt} {b₀ : Stmt} {np pos pos' : Pos} {tb : WX → TS} {ts : Addr → Value → Option Addr → TS} {Wout : WX}
theorem ps_try_held (hs : X.stack = X.env :: X.outer) (hf : X.env.frame = some X.env.locals) (hex : X.ex = []) (hN : X.N.Nodup) (hi : X.N[i]? = some n) (hln : X.env.kindOf n = some .local) (hc : Names X x c) (tk : Takes X Wout)
    (hb : ∀ (W : WX) (pn : List (Addr × Obj)) (xe : Value → Shared → Prop), Takes (X.tr pn xe) W → PassesOwn (model X.prog X.w) X.A X.env xe → PSs (X.tr pn xe) body (tb W))
    (hsu : ∀ (a : Addr) (oe : Obj) (cls : Value) (d : Option Addr) (pn : List (Addr × Obj)), Zc cls d oe → (∃ vs, oe.data = .fields vs) → PSs (X.suite a ((a, oe) :: pn)) (b₀ :: suite) (ts a cls d)) :
    PS X (.Try body [.ExceptHandler (some (.Name x np)) (some n) (b₀ :: suite) pos'] [] [] pos) (fun D σ H => tb (wHeld X.K c i ts Wout D) D σ H) := by
  refine ⟨fun pins s σ H D I h => wpAny_Try_except ?_⟩
  have ok := I.ok
  have hfr : X.A.frames = some (X.env :: X.outer) := by rw [ok.frames, hs]
  refine wpAny_mono ((hb (wHeld X.K c i ts Wout D) (X.pn ++ pins) (fun e z => wpAny (model X.prog X.w) X.A (noteFrame e X.env) (fun _ z2 => wpAny (model X.prog X.w) X.A (setFlight e none) (fun _ z3 =>
    wpAny (model X.prog X.w) X.A (handleBy e X.env [.ExceptHandler (some (.Name x np)) (some n) (b₀ :: suite) pos']) (SP X pins D) X.xe z3) X.xe z2) X.xe z) (fun u z xx => ?_) PassesOwn.looking).run [] s σ H D (I.toTry _) h) (fun f z hz => ?_) (fun _ _ q => q)
  · obtain ⟨a, B, sI, pins', σ', H', cls, d, eu, J', nb, up, sky, na, os, ag, b, hb1, hyes, hno⟩ := xx
    subst eu
    have J : Inv X pins σ' H' sI := J'.ofTry ok
    rw [hs] at sky
    show wpAny (model X.prog X.w) X.A (noteFrame (.ref a) X.env) _ _ _
    refine Sky.land Zc.steady hfr hf sky fun h3 fl3 up3 => ?_
    have J3 : Inv X pins σ' H' { z with heap := h3 } := J.landed nb fl3.1 (up.trans up3) os ag
    obtain ⟨oe3, vs3, he3, hz3, hd3⟩ := fl3.there
    have nfr : a ∉ frs (X.env :: X.outer) := fun hm => by
      obtain ⟨_, o', e', hnf⟩ := fl3.2.2.1.mem hm
      rw [he3] at e'; cases e'
      exact hnf _ hd3
    have nL : a ≠ X.env.locals := fun q => nfr (List.mem_filterMap.mpr ⟨X.env, List.mem_cons_self, by rw [hf, q]⟩)
    have nF : a ∉ X.fs := fun hm => by
      obtain ⟨e, he, q⟩ := List.mem_filterMap.mp hm
      exact nfr (List.mem_filterMap.mpr ⟨e, List.mem_cons_of_mem _ he, q⟩)
    have nI : sI.heap.get? a = none := by
      cases q : sI.heap.get? a with
      | none => rfl
      | some o =>
        have z2 := nb a o q (by rw [hs]; exact nfr)
        rw [fl3.2.1] at z2; cases z2
    have n0 : X.s_0.heap.get? a = none := by
      cases q : X.s_0.heap.get? a with
      | none => rfl
      | some o =>
        obtain ⟨o', e⟩ := J.base.there a o q (by rw [hex]; exact List.not_mem_nil)
        rw [nI] at e; cases e
    have npin : ∀ p ∈ X.pn ++ pins, p.1 ≠ a := fun p hp q => by
      have e := (J.pin p hp).1
      rw [q, nI] at e; cases e
    have S3 := J3.suite he3 hd3 na nL nF
    refine wpAny_handleBy_cons (codeAny_handlers_test ?_) (by intro q; cases q)
    have LT : PySem.W.Looks (model X.prog X.w) h3 (typeOf (.ref a)) cls := fun A Q E s k q => wpAny_typeOf_ref (k _ _ he3) (by rw [hz3.1]; exact q)
    have LM := PySem.W.exm_one (M := model X.prog X.w) (J3.kIn) LT hb1
    have test : ∀ {Q : Value → Shared → Prop} {E : Value → Shared → Prop}, Q c { z with heap := h3 } → wpAny (model X.prog X.w) (X.A.mark (some (.ref a))) (eval (.Name x np) X.env) Q E { z with heap := h3 } := fun {Q E} q => by
      obtain ⟨hg, hdb, hm⟩ := hc
      exact hm.elim (fun hm => ld_glob (X := X.suite a ((a, oe3) :: (X.pn ++ pins))) S3 hg hm q hdb) fun ⟨hm, hv, hnn⟩ => ld_blt (X := X.suite a ((a, oe3) :: (X.pn ++ pins))) S3 hg hm hv q hnn hdb
    refine test (LM.here ?_)
    cases b with
    | true =>
      refine codeAny_handlers_suite_as (HandSPX.lands_againZ fl3 fun h4 fl4 up4 => ?_)
      have J4 : Inv X pins σ' H' { z with heap := h4 } := J.landed nb fl4.1 ((up.trans up3).trans up4) os ag
      obtain ⟨oe4, vs4, he4, hz4, hd4⟩ := fl4.there
      refine store_ok (X := X.suite a ((a, oe4) :: (X.pn ++ pins))) (v := .ref a) (J4.suite he4 hd4 na nL nF) hN hi (.inl hln) rfl (fun s5 S5 => ?_) (.inr hln)
      refine wpAny_mono ((hsu a oe4 cls d (X.pn ++ pins) hz4 ⟨_, hd4⟩).run [] s5 _ H' _ S5 (hyes rfl a na)) (fun f s6 hsp => ?_) (fun _ _ q => q.elim)
      match f, hsp with
      | .brk, ⟨_, _, _, q6⟩ => exact q6.elim
      | .cont, ⟨_, _, _, q6⟩ => exact q6.elim
      | .next, ⟨σ6, H6, S6, q6⟩ =>
        obtain ⟨p1, p2, _⟩ := S6.pin (a, oe4) (List.mem_append_left _ List.mem_cons_self)
        have J6 := Inv.held (o := exh cls d a) (S6.unsuite ok) p1 hd4 p2 n0 nL npin (exh_ok p1 hz4 hd4)
        exact gone_ok J6 hN hi hln fun s7 J7 => ⟨_, _, J7, q6 p2⟩
      | .ret u, ⟨v6, σ6, H6, S6, r6, q6⟩ => exact gone_ok (S6.unsuite ok) hN hi hln fun s7 J7 => ⟨_, _, _, J7, r6, q6⟩
    | false =>
      show wpAny _ X.A (handleBy (.ref a) X.env []) _ _ _
      refine wpAny_handleBy_nil ?_
      obtain ⟨_, _, _, oe, vs, T, oT, ts', he, _, hd, h1, _⟩ := id fl3
      unfold PySem.passOn
      refine wpAny_bind (wpAny_field he hd h1 ?_)
      rw [if_neg (show ¬ ((Value.ref T == Value.none) = true) from by simp)]
      have fin : wpAny (model X.prog X.w) X.A (setFlight (.ref a) X.env.frame) (fun _ s4 => wpAny (model X.prog X.w) X.A (throw (.ref a) : Sem Flow) (SP X pins D) X.xe s4) X.xe { z with heap := h3 } := by
        rw [hf]
        exact HandSPX.setFlight_upZ fl3 fun h4 hh4 up4 => wpAny_throw (tk _ _ ⟨a, B, sI, pins, σ', H', cls, d, rfl, J, nb, (up.trans up3).trans up4, .inr (.inr (by rw [hs]; exact hh4)), na, os, ag, hno rfl⟩)
      first
        | exact wpAny_bind (wpAny_pure (wpAny_bind fin))
        | exact wpAny_bind fin
  · match f, hz with
    | .next, ⟨σ', H', J', q⟩ => exact wpAny_execs_nil ⟨σ', H', J'.ofTry ok, q⟩
    | .brk, ⟨σ', H', J', q⟩ => exact ⟨σ', H', J'.ofTry ok, q⟩
    | .cont, ⟨σ', H', J', q⟩ => exact ⟨σ', H', J'.ofTry ok, q⟩
    | .ret u, ⟨v, σ', H', J', r, q⟩ => exact ⟨v, σ', H', J'.ofTry ok, r, q⟩
end
end L2.Wb
/-! WbHeld2 -/
set_option Elab.async false
set_option linter.all false
set_option maxRecDepth 100000
set_option maxHeartbeats 4000000
namespace L2.Wb
open PySem PySem.Spec PyProof.Rows
/-- what the class at D of exceptions says -/
structure ExD (K : PySem.W.Frag) (D : Addr) : Prop where
  cl : (PySem.W.clsIn K D).isSome = true
  ga : PySem.W.findIn K (.ref D) "__getattribute__" = some (some (.builtin "BaseException.__getattribute__"))
  gg : PySem.W.findIn K (.ref D) "__getattr__" = some none
  su : PySem.W.subIn K (.ref D) (.type "BaseException") = some true
  hd : PySem.W.hasDictIn K D = true
  ca : PySem.W.findIn K (.ref D) "__class__" = some (some (.builtin "object.__class__"))
  sp : PySem.W.specialIn K (.builtin "object.__class__") "__get__" = some (some (.builtin "getset_descriptor.__get__"))
  tk : PySem.W.takesIn K (.builtin "object.__class__") = some true
  mo : PySem.W.mroIn K D (.type "object") = some true
section
variable {X : Cx} {pins : List (Addr × Obj)} {σ : St} {H : Hp} {s : Shared}
/-- the held exception with its dict as an instance -/
theorem held_inst {a D : Addr} {d : Option Addr} (I : Inv X pins σ H s) (h : H a = some (exh (.ref D) d a)) (hd : ∀ dd, d = some dd → ∃ fs, H dd = some (.xd fs)) : ∃ (oe : Obj) (od : Option Obj), PySem.W.InstAt s.heap a oe D od ∧
    ∀ dd fs, d = some dd → H dd = some (.xd fs) → ∃ (o2 : Obj) (mA : Str → Option Value), od = some o2 ∧ (∀ n, PySem.W.lookIn n o2 = some (mA n)) ∧ ∀ f, RelO (fs.lookup f) (mA f) := by
  obtain ⟨⟨oe, vs, e, z, f⟩, _⟩ := I.hok a _ h
  have nc : PySem.W.notCls oe = true := by unfold PySem.W.notCls; rw [f] <;> rfl
  cases d with
  | none => exact ⟨oe, none, ⟨e, z.1, nc, by rw [z.2]; trivial⟩, fun _ _ q => nomatch q⟩
  | some dd =>
    obtain ⟨fs, hx⟩ := hd dd rfl
    obtain ⟨mA, hns, hr⟩ := I.hok dd _ hx
    obtain ⟨od, ho, hl⟩ := lookIn_ns hns
    refine ⟨oe, some od, ⟨e, z.1, nc, by rw [z.2]; exact ho⟩, fun dd' fs' q h' => ?_⟩
    cases q
    rw [hx] at h'; cases h'
    exact ⟨od, mA, rfl, hl, hr⟩
/-- isinstance(e, C), e a held exception -/
def rIsH (K : PySem.W.Frag) : List V → Hp → VK → Prop := fun xs H Q => ∃ (a D : Addr) (d : Option Addr) (c : V) (cv : Value) (b : Bool), xs = [.ref a, c] ∧ H a = some (exh (.ref D) d a) ∧ (∀ dd, d = some dd → ∃ fs, H dd = some (.xd fs)) ∧ ExD K D ∧ ClsV c cv ∧ PySem.W.kitOne K (.ref D) cv = some b ∧ Q (.bl b) H
theorem call_isH : CallR X (.builtin "isinstance") (rIsH X.K) := by
  intro pins s σ H xs us Q I r ⟨a, D, d, c, cv, b, ex, h, hd, C, hc, e, q⟩
  subst ex
  obtain ⟨u, v, eu, ru, rv⟩ := vals2 r
  subst eu
  cases (show u = Value.ref a from ru)
  cases hc.eq rv
  obtain ⟨oe, od, J, _⟩ := held_inst I h hd
  exact PySem.W.kia_one (PySem.W.kitx_exc C.cl C.ga C.gg C.su C.ca C.sp C.tk C.mo) I.kIn J e (fun z => nomatch z) fun tk => ⟨.bl b, H, I.kept (t' := tk) fun _ _ z => z, rfl, q⟩
/-- e.f -/
def tHeldF (K : PySem.W.Frag) (f : Str) (te : TE) : TE := fun σ H Q => te σ H fun x H1 => ∃ (a D dd : Addr) (fs : List (Str × V)) (v : V), x = .ref a ∧ H1 a = some (exh (.ref D) (some dd) a) ∧ H1 dd = some (.xd fs) ∧ ExD K D ∧ PySem.W.findIn K (.ref D) f = some none ∧ fs.lookup f = some v ∧ Q v H1
theorem pe_heldF {e : Expr} {te : TE} {pos : Pos} {f : Str} (he : PE X e te) (hb : attributeBase e f X.env (eval e X.env) = eval e X.env := by rfl) : PE X (.Attribute e f pos) (tHeldF X.K f te) := by
  refine ⟨fun pins s σ H Q I h => attr_of hb (thn (he.run pins s σ H _ I h) fun u z hh => ?_)⟩
  obtain ⟨x, H1, J, rx, a, D, dd, fs, v, ex, h1, h2, C, hno, hl, q⟩ := hh
  subst ex
  cases (show u = Value.ref a from rx)
  obtain ⟨oe, od, K1, rest⟩ := held_inst J h1 fun dd' e => by cases e; exact ⟨fs, h2⟩
  obtain ⟨o2, mA, rfl, hlk, hr⟩ := rest dd fs rfl h2
  obtain ⟨u, hu, ru⟩ := RelO.some_of (v := v) (o := mA f) (by rw [← hl]; exact hr f)
  exact HandSPX.exc_get J.kIn K1 C.ga C.gg C.su (PySem.W.findObj_own C.hd hno rfl (by rw [hlk, hu])) (handed_of ru) ⟨v, H1, J.tok _, ru, q⟩
end
end L2.Wb
/-! WbSuper -/
set_option Elab.async false
set_option linter.all false
set_option maxRecDepth 100000
set_option maxHeartbeats 4000000
/-! class X(Base): def __init__(self, f): super().__init__(text); self.f = f, Base an heir of ValueError without an __init__ of its own: X(v) made and raised. -/
namespace PySem.WbX
open PySem PySem.W PySem.Calls PyProof.Rows PySem.HandSPX L2
/-- super().__init__(arg); self.f = f -/
def supB (arg : Expr) (f : Str) (p0 p1 p2 p3 p4 p5 p6 p7 p8 : Pos) : List Stmt :=
  [.Expr (.Call (.Attribute (.Call (.Name "super" p0) [] [] p1) "__init__" p2) [arg] [] p3) p4, .Assign [.Attribute (.Name "self" p5) f p6] (.Name f p7) p8]
/-- what the written part says of the class at C, of its __init__ at fI, the cell of its name at cc, the code record at cda -/
structure Sup (prog : Program) (K : Frag) (mg : Str → Option Value) (C fI cc cda : Addr) (qual f : Str) (arg : Expr) (args : Arguments) (sc : Scope) : Prop where
  cls : ∃ nm q N bs bm sn sub ab col dd k0 k1 k2 k3 k5, K.lookup C = some (excClassObj nm q C N bs bm true sn sub ab col dd k0 k1 k2 k3 k5 "ValueError.__new__") ∧ refsVE bm = true
  sa : findIn K (.ref C) "__setattr__" = some (some (.builtin "object.__setattr__"))
  noN : findIn K (.ref C) f = some none
  iC : findIn K (.ref C) "__init__" = some (some (.ref fI))
  tC : typeIn K (.ref fI) = some (.type "function")
  kC : keepIn K (.ref C) = true
  exC : subIn K (.ref C) (.type "BaseException") = some true
  vaC : subIn K (.ref C) (.type "ValueError") = some true
  ssC : mroIn K C (.ref C) = some true
  tyC : typeIn K (.ref C) = some (.type "type")
  sup : ks_superIn K C C "__init__" = some (some (.builtin "ValueError.__init__"))
  opq : nsIn K cStatics "thirdparty.any" = some none
  noS : mg "super" = none
  cell : ∃ (cl : Value) (cld : Option Addr) (csl : Array (Option Value)), K.lookup cc = some ⟨cl, cld, .cell (some (.ref C)), csl⟩
  code : ∃ (ccl : Value) (cdd : Option Addr) (vs : Array Value) (ccs : Array (Option Value)) (file : Str) (tf : Tok), K.lookup cda = some ⟨ccl, cdd, .fields vs, ccs⟩ ∧ vs[2]? = some (.str file tf) ∧ ((prog.main.file : Str) == file) = true
  fn : ∃ (oc : Value) (od : Option Addr) (kV doc pm : Value) (an : Option Addr) (ct : Value) (osl : Array (Option Value)) (p0 p1 p2 p3 p4 p5 p6 p7 p8 : Pos),
    K.lookup fI = some ⟨oc, od, .func (ksFn "__init__" qual args (supB arg f p0 p1 p2 p3 p4 p5 p6 p7 p8) sc .none kV doc pm an (.ref cda) ct cc), osl⟩ ∧ codeIn K (.ref cda) qual = true ∧ (p2.endLine == p3.line) = true ∧
    ∀ u v : Value, bindArgs (ksFn "__init__" qual args (supB arg f p0 p1 p2 p3 p4 p5 p6 p7 p8) sc .none kV doc pm an (.ref cda) ct cc) ⟨[u, v], []⟩ = pure [(("self" : Str), u), (f, v)]
  hd : (args.posonlyargs ++ args.args).head?.map (·.arg) = some ("self" : Str)
  top : (prog.main.scope.names.lookup ("super" : Str)).isSome = false
  sc1 : sc.names.lookup ("super" : Str) = some .globalImplicit
  sc2 : sc.names.lookup ("__class__" : Str) = some .free
  sc3 : sc.names.lookup ("self" : Str) = some .local
  sc4 : sc.names.lookup f = some .local
  sck : sc.kind = .function
  scc : sc.isCoroutine = false
  scg : sc.isGenerator = false
  nocell : ∀ x ∈ sc.names, x.2 ≠ .cell
  fs : (f == ("self" : Str)) = false
  fd : (f == ("__debug__" : Str)) = false
/-- the text's reading in __init__'s frame: it makes what it makes and keeps what is there -/
def ArgOk (prog : Program) (w : World) (arg : Expr) (v : Value) : Prop := ∀ (A : Around) (env : Env) (s : Shared) (m : Str → Option Value) (f : Str) (Q : Value → Shared → Prop) (E : Value → Shared → Prop), s.heap.Ns env.locals m → m f = some v → env.kindOf f = some .local → env.scope.kind = .function →
  (f == ("__debug__" : Str)) = false → (∀ u h' tk, (∀ b o, s.heap.get? b = some o → h'.get? b = some o) → Q u { s with heap := h', toks := tk }) → wpAny (model prog w) A (eval arg env) Q E s
theorem arg_str {prog : Program} {w : World} {x : Str} {j : Nat} {pos : Pos} {v : Value} : ArgOk prog w (.Constant (.str x) j pos) v := fun A env s m f Q E _ _ _ _ _ h => wpAny_Constant_str (h _ _ _ fun _ _ e => e)
/-- the call of super().__init__ with it, as it is read -/
def ArgForm (arg : Expr) : Prop := (∀ env : Env, starEach [arg] env = (false, eval arg env) :: starEach [] env) ∧ ∀ (p0 p1 p2 p3 : Pos) (env : Env), (p2.endLine == p3.line) = true → ∃ pl : Sem Bool, eval (.Call (.Attribute (.Call (.Name "super" p0) [] [] p1) "__init__" p2) [arg] [] p3) env = (do
  let ov ← attributeBase (.Call (.Name "super" p0) [] [] p1) "__init__" env (eval (.Call (.Name "super" p0) [] [] p1) env)
  standAt p2.atName
  let (f, first) ← holding [ov] (getMethod ov "__init__" pl)
  callWith p3 f first (backTo p3 (starEach [arg] env)) [])
theorem form_of {arg : Expr} (h : ∀ env : Env, starEach [arg] env = (false, eval arg env) :: starEach [] env) : ArgForm arg := by
  refine ⟨h, fun p0 p1 p2 p3 env hl => ⟨(do return (← importBound (.Call (.Name "super" p0) [] [] p1) env).getD true), ?_⟩⟩
  have hf : ∀ (args : List (Bool × Sem Value)), args = backTo p3 (starEach [arg] env) → methodCallForm ([arg].length + ([] : List Keyword).length) args (backToKw p3 (keywordEach [] env)) = true := fun args e => by rw [e, h]; rfl
  rw [arm_eval_Call]
  unfold methodCall
  rw [hf _ rfl]
  have e1 : ∀ ov : Value, calleeOf true (.Call (.Name "super" p0) [] [] p1) env ov "__init__" = getMethod ov "__init__" (do return (← importBound (.Call (.Name "super" p0) [] [] p1) env).getD true) := fun _ => rfl
  have e2 : methodCallPos true (.Call (.Name "super" p0) [] [] p1) env p2 p3 = pure p3 := by
    unfold methodCallPos
    rw [if_pos (by rw [hl]; rfl)]
  simp only [e1, e2, pure_bind]
  rfl
theorem form_str {x : Str} {j : Nat} {pos : Pos} : ArgForm (.Constant (.str x) j pos) := form_of fun _ => rfl
theorem one_len (v : Value) : [v].length ≤ sizeLine := by rw [sizeLine_eq]; exact (by decide : 1 ≤ 16777216)
/-- what __init__ leaves of a fresh exception at x -/
structure Done (h h' : Heap) (x C dx t1 : Addr) (f : Str) (v : Value) : Prop where
  keep : ∀ b o, b ≠ x → h.get? b = some o → h'.get? b = some o
  obj : h'.get? x = some (excObj C t1 (some dx) .none)
  dbig : h.objs.size ≤ dx
  dne : dx ≠ x
  ns : h'.Ns1 dx (fun y => if y = f then some v else none)
section
variable {prog : Program} {w : World} {A : Around} {E : Value → Shared → Prop} {h : Heap} {g : Array GenState} {d : Drawn} {t : Nat} {os : OsState}
variable {nm q : Str} {C N : Addr} {bs bm : List Value} {hdct : Bool} {sn : List Str} {sub : List Value} {ab : Bool} {col : Option Bool} {dd : Option Addr} {k0 k1 k2 k3 k5 : Option Value}
/-- the bound ValueError.__init__, called -/
theorem mw_call {u x t0 : Addr} {rest : List Value} {Q : Value → Shared → Prop} (hC : h.get? C = some (excClassObj nm q C N bs bm hdct sn sub ab col dd k0 k1 k2 k3 k5 "ValueError.__new__")) (hx : h.get? x = some (excO C t0)) (hu : h.get? u = some (kxs_mw "ValueError.__init__" x)) (hz : rest.length ≤ sizeLine)
    (fin : ∀ h' t1, (∀ b o, b ≠ x → h.get? b = some o → h'.get? b = some o) → h'.get? x = some (excO C t1) → Q .none ⟨h', g, d, t, os⟩) : wpAny (model prog w) A (call (.ref u) rest) Q E ⟨h, g, d, t, os⟩ := by
  have FB := PySem.F.excBase_ValueError
  refine wpAny_call (codeAny_of_tree (show wpAny _ A.in1 (callAny (.ref u) ⟨rest, []⟩) _ _ _ from ?_))
  simp only [callAny]
  refine wpAny_bind (wpAny_load hu ?_)
  simp only [kxs_mw, show (Value.type "method-wrapper" == Value.type "method" || Value.type "method-wrapper" == Value.type "builtin_function_or_method" || Value.type "method-wrapper" == Value.type "method-wrapper") = true by decide, if_true]
  refine KFB.if_so (by decide) (wpAny_bind (check_bound_init FB.toExcCallFacts hC hx rfl (wpAny_bind (wpAny_pure (wpAny_pure ⟨plainId_quiet FB.init.plain _, codeAny_builtin FB.initEntry ?_⟩)))))
  exact exc_init_tree (cls := .ref C) (t0 := t0) (dv := none) (c2 := .none) (c3 := .none) (b4 := .bool false) hx hz fun h' k e _ => fin h' _ k e
end
section
variable {prog : Program} {w : World} {A : Around} {E : Value → Shared → Prop} {R : Result → Shared → Prop} {s : Shared} {K : Frag} {mg mb : Str → Option Value} {C fI cc cda x t0 : Addr} {qual f : Str} {arg : Expr} {args : Arguments} {sc : Scope} {v : Value}
theorem sup_init (T : Sup prog K mg C fI cc cda qual f arg args sc) (ha : ArgOk prog w arg v) (hform : ArgForm arg) (X : K.In s.heap) (hg : s.heap.Ns mainGlobals mg) (hbl : s.heap.Ns builtinsNs mb) (hbb : ∀ x : Str, x ≠ "__name__" → mb x = bootBuiltins x) (hlim : s.heap.NoLimit) (hx : s.heap.get? x = some (excO C t0)) (hnx : K.lookup x = none) (hroom : A.depth < recursionLimit)
    (hq : ∀ h' tk dx t1, Done s.heap h' x C dx t1 f v → R (.ok (.ret .none)) { s with heap := h', toks := tk }) : codeAny (model prog w) A (.call (.ref fI) ⟨[.ref x, v], []⟩) R s := by
  obtain ⟨oc, od, kV, doc, pm, an, ct, osl, p0, p1, p2, p3, p4, p5, p6, p7, p8, ho, hcd, hline, hbind⟩ := T.fn
  obtain ⟨nm, q, N, bs, bm, sn, sub, ab, col, dd, k0, k1, k2, k3, k5, hC, hbm⟩ := T.cls
  obtain ⟨cl, cld, csl, hcell⟩ := T.cell
  obtain ⟨ccl, cdd, vs, ccs, file, tf, hcode, hvs, hfile⟩ := T.code
  have hcl : clsIn K C = some { name := nm, bases := bs, mro := .ref C :: bm, ns := N, qualname := q, hasDict := true, slotNames := sn, subclasses := sub, abstract := ab, collection := col, hasDel := false } := by unfold clsIn; rw [hC] <;> rfl
  refine ks_codeAny_call_defAt (binds := [(("self" : Str), .ref x), (f, v)]) hroom (X _ _ ho) rfl hlim (codeRec_of X hcd) rfl (BindsTo.of_eq (hbind _ _)) T.nocell (fun y hy => ?_) (fun h₁ hns k1 => ?_) T.scc T.scg T.sck
  · rcases List.mem_cons.mp hy with e | e
    · rw [e]; exact T.sc3
    · rw [List.mem_singleton.mp e]; exact T.sc4
  have X1 : K.In h₁ := X.keeps k1
  have hx1 := k1 _ _ hx
  have mself : (fun y => ([(("self" : Str), Value.ref x), (f, v)] : List (Str × Value)).reverse.lookup y) ("self" : Str) = some (.ref x) := by
    have e : ((("self" : Str)) == f) = false := by rw [beq_eq_false_iff_ne]; intro q; have z := T.fs; rw [← q] at z; simp at z
    simp [List.lookup, e]
  have mf : (fun y => ([(("self" : Str), Value.ref x), (f, v)] : List (Str × Value)).reverse.lookup y) f = some v := by simp [List.lookup]
  show _root_.PySem.wpAt _ _ _ (execs (supB arg f p0 p1 p2 p3 p4 p5 p6 p7 p8) _) _ _ _
  obtain ⟨pl, hev⟩ := hform.2 p0 p1 p2 p3 (callEnv (ksFn "__init__" qual args (supB arg f p0 p1 p2 p3 p4 p5 p6 p7 p8) sc .none kV doc pm an (.ref cda) ct cc) s.heap.objs.size fI) hline
  refine ks_wpAt_execs_cons (ks_wpAt_Expr_any (ks_wpAt_MethodCall (pl := pl) ?_ hev) (show (sc.kind == .module && _) = false by rw [T.sck]; rfl) rfl)
  obtain ⟨ar, har, earg⟩ : ∃ ar, (args.posonlyargs ++ args.args).head? = some ar ∧ ar.arg = "self" := by
    have z := T.hd
    cases q : (args.posonlyargs ++ args.args).head? with
    | none => rw [q] at z; cases z
    | some ar => rw [q] at z; exact ⟨ar, rfl, Option.some.inj z⟩
  have I1 : InstAt h₁ x (excO C t0) C none := ⟨hx1, rfl, rfl, trivial⟩
  refine ks_wpAt_super_base (body := supB arg f p0 p1 p2 p3 p4 p5 p6 p7 p8) T.sc1 T.sc2 (by decide) rfl (X1 _ _ ho) rfl har rfl (X1 _ _ hcode) rfl hvs hfile T.top ?_
  refine ks_loadName_global T.sck T.sc1 (loadGlobal_builtin (hg.keeps k1) T.noS (hbl.keeps k1) ((hbb _ (by decide +kernel)).trans (by decide +kernel)) ⟨rfl, ?_⟩)
  refine wpAny_loadName_free T.sck T.sc2 rfl ⟨_, X1 _ _ hcell, rfl⟩ ?_
  rw [earg]
  refine wpAny_loadName_local T.sck T.sc3 hns mself ?_
  refine ks_wpAny_isType_cls (X1 _ _ hC) rfl ⟨rfl, ?_⟩
  refine ks_wpAny_call_super (X1 _ _ hC) rfl I1.at_ I1.cls (fun c e => nomatch e) (looks_mroIn X1 T.ssC) (fun h₂ e2 k2 => ?_)
  have X2 : K.In h₂ := X1.keeps k2
  have hx2 := k2 _ _ hx1
  have hm := T.sup
  unfold ks_superIn at hm
  rw [hcl] at hm
  refine kxs_getMethod kxs_ValueError e2 (looks_opaque X2 T.opq) (l₀ := .ref C :: bm) (fun A Q E s k q => wpAny_bind ((looks_clsIn X2 hcl) A _ E s k (wpAny_pure q))) rfl X2 hm
    ((InstAt.type (od := none) (ox := excO C t0) ⟨hx2, rfl, rfl, trivial⟩).andThen (looks_subIn X2 T.vaC)) (ks_ne X2 (odx := none) ⟨hx2, rfl, rfl, trivial⟩ hcl) (by decide) ?_
  have X3 : K.In (h₂.push (kxs_mw "ValueError.__init__" x)) := X2.keeps fun b o e => Heap.get?_push_of_some _ e
  have hu3 : (h₂.push (kxs_mw "ValueError.__init__" x)).get? h₂.objs.size = some (kxs_mw "ValueError.__init__" x) := Heap.get?_push_at rfl rfl
  have k3 : ∀ b o, h₁.get? b = some o → (h₂.push (kxs_mw "ValueError.__init__" x)).get? b = some o := fun b o e => Heap.get?_push_of_some _ (k2 b o e)
  rw [hform.1]
  refine kxs_callWith (i := "ValueError.__init__") (x := x) rfl (evalArgs_plain ?_)
  refine spliced_cons (ha _ _ _ _ f _ _ (hns.keeps k3) mf T.sc4 T.sck T.fd fun u h₄ tk4 k4 => args_nil ⟨k4 _ _ hu3, ?_⟩)
  have k14 : ∀ b o, h₁.get? b = some o → h₄.get? b = some o := fun b o e => k4 b o (k3 b o e)
  refine mw_call (X3.keeps k4 _ _ hC) (k14 _ _ hx1) (k4 _ _ hu3) (one_len u) fun h₅ t1 k5 hx5 => ?_
  have hxL : s.heap.objs.size ≠ x := Nat.ne_of_gt (Heap.lt_size hx)
  have k15 : ∀ b o, b ≠ x → h₁.get? b = some o → h₅.get? b = some o := fun b o hb e => k5 b o hb (k14 b o e)
  have X5 : K.In h₅ := fun a o e => k15 a o (fun z => by rw [z, hnx] at e; cases e) (X1 a o e)
  have hns5 : h₅.Ns s.heap.objs.size (fun y => ([(("self" : Str), Value.ref x), (f, v)] : List (Str × Value)).reverse.lookup y) := by
    obtain ⟨oL, es, ep, hL, r⟩ := hns
    exact ⟨oL, es, ep, k15 _ _ hxL hL, r⟩
  refine wpAt_of_wpAny (wpAny_execs_cons (plainObj_wpAny_Assign_Attribute ?_))
  refine wpAny_Name (wpAny_loadName_local T.sck T.sc4 hns5 mf (wpAny_Name (wpAny_loadName_local T.sck T.sc3 hns5 mself ?_) (by decide))) T.fd
  refine set_plain X5 (ox := excO C t1) (od := none) ⟨hx5, rfl, rfl, trivial⟩ T.sa (exc_osa X5 hx5 hcl (show refsVE (.ref C :: bm) = true from hbm) rfl T.noN fun h₆ tk6 dx k6 dn dne hx6 hn6 => ?_)
  have z : s.heap.objs.size < h₅.objs.size := hns5.lt
  exact wpAny_execs_nil (hq h₆ tk6 dx t1 ⟨fun b o hb e => k6 b o hb (k15 b o hb (k1 b o e)), hx6, Nat.le_of_lt (Nat.lt_of_lt_of_le z dn), dne, hn6⟩)
/-- a made exception -/
structure Made (h h' : Heap) (e C d : Addr) (f : Str) (v : Value) : Prop where
  keep : ∀ b o, h.get? b = some o → h'.get? b = some o
  new : h.objs.size ≤ e
  obj : ∃ oe vs, h'.get? e = some oe ∧ oe.cls = .ref C ∧ oe.dict = some d ∧ oe.data = .fields vs ∧ vs[1]? = some .none
  dbig : h.objs.size ≤ d
  dne : d ≠ e
  ns : h'.Ns1 d (fun y => if y = f then some v else none)
theorem sup_made (T : Sup prog K mg C fI cc cda qual f arg args sc) (ha : ArgOk prog w arg v) (hform : ArgForm arg) (X : K.In s.heap) (hg : s.heap.Ns mainGlobals mg) (hbl : s.heap.Ns builtinsNs mb) (hbb : ∀ x : Str, x ≠ "__name__" → mb x = bootBuiltins x) (hlim : s.heap.NoLimit) (hroom : A.depth + 1 < recursionLimit)
    (hq : ∀ h' tk e d, Made s.heap h' e C d f v → R (.ok (.ret (.ref e))) { s with heap := h', toks := tk }) : codeAny (model prog w) A (.call (.ref C) ⟨[v], []⟩) R s := by
  obtain ⟨nm, q, N, bs, bm, sn, sub, ab, col, dd, k0, k1, k2, k3, k5, hC, hbm⟩ := T.cls
  obtain ⟨hp, g, dr, tk, os⟩ := s
  have k : ∀ b o, hp.get? b = some o → ((hp.push (kdv_tup [v])).push (excO C hp.objs.size)).get? b = some o := fun b o e => Heap.get?_push_of_some _ (Heap.get?_push_of_some _ e)
  have hget : ((hp.push (kdv_tup [v])).push (excO C hp.objs.size)).get? (hp.objs.size + 1) = some (excO C hp.objs.size) := by heap_get
  have hnx : K.lookup (hp.objs.size + 1) = none := by
    cases e : K.lookup (hp.objs.size + 1) with
    | none => rfl
    | some o => exact absurd (Nat.lt_of_succ_lt (Heap.lt_size (show hp.get? _ = some o from X _ _ e))) (Nat.lt_irrefl _)
  refine call_own PySem.F.excBase_ValueError (fun X => refsVE_contains X bm hbm) (X _ _ hC) (looks_findIn X T.iC) (fun self => bind_fn X self T.tC) (one_len v) ?_
  refine sup_init (s := ⟨(hp.push (kdv_tup [v])).push (excO C hp.objs.size), g, dr, tk, os⟩) T ha hform (X.keeps k) (hg.keeps k) (hbl.keeps k) hbb (hlim.keeps k) hget hnx (show A.depth + 1 < recursionLimit from hroom) fun h' tk' dx t1 D => ?_
  have old : ∀ b o, hp.get? b = some o → h'.get? b = some o := fun b o e => D.keep b o (Nat.ne_of_lt (Nat.lt_succ_of_lt (Heap.lt_size e))) (k b o e)
  have zz : hp.objs.size + 1 + 1 ≤ dx := by
    have q := D.dbig
    first
      | (simpa only [Heap.size_push] using q)
      | exact q
  exact ⟨rfl, hq h' tk' (hp.objs.size + 1) dx ⟨old, Nat.le_succ _, ⟨_, _, D.obj, rfl, rfl, rfl, rfl⟩, Nat.le_trans (Nat.le_trans (Nat.le_succ _) (Nat.le_succ _)) zz, D.dne, D.ns⟩⟩
end
end PySem.WbX
namespace L2.Wb
open PySem PySem.Spec PyProof.Rows
theorem relO_one {v : V} {u : Value} (r : RelV v u) (g f : Str) : RelO (List.lookup f [(g, v)]) (if f = g then some u else none) := by
  by_cases hw : f = g
  · subst hw
    rw [if_pos rfl, show List.lookup f [(f, v)] = some v by simp [List.lookup]]
    exact r
  · rw [if_neg hw, show List.lookup f [(g, v)] = none by simp [List.lookup, show (f == g) = false by simpa using hw]]
    trivial
section
variable {X : Cx} {C fI cc cda : Addr} {qual f : Str} {arg : Expr} {args : Arguments} {sc : Scope}
/-- X(e): the class, its own dict -/
def tMkSup (C : Addr) (f : Str) (okv : V → Prop) (ta : TA) : L2.St → Hp → XK → Prop := fun σ H Q => ta σ H fun vs H1 => ∃ v, vs = [v] ∧ okv v ∧ ∀ d, H1 d = none → Q (.ref C) (some d) (upd H1 d (.xd [(f, v)]))
theorem pmk_sup {a : Expr} {ta : TA} {p pos : Pos} {k : Nat} {x : Str} {okv : V → Prop} (gC : X.mg x = some (.ref C)) (T : PySem.WbX.Sup X.prog X.K X.mg C fI cc cda qual f arg args sc) (hok : ∀ v u, okv v → RelV v u → PySem.WbX.ArgOk X.prog X.w arg u) (hform : PySem.WbX.ArgForm arg) (hr : Room k X.A) (ha : PA X [a] ta) (hg : Gl X x := by rfl)
    (hd : (x == ("__debug__" : Str)) = false := by decide) (he : starEach (a :: []) X.env = (false, eval a X.env) :: starEach [] X.env := by rfl) (hpl : (backTo pos (starEach [] X.env)).any (·.1) = false := by rfl) : PMk X (.Call (.Name x p) [a] [] pos) (tMkSup C f okv ta) := by
  intro pins s σ H Q I h
  refine wpAny_Call_Name_kw (ld_glob I hg gC (PySem.W.callWith_K (h₀ := X.base) I.ok.mod.kin T.kC (thn (ha.run pos pins s σ H _ I h) fun us z hh => ?_) he hpl) hd)
  obtain ⟨vs, H1, J, r1, v, ev, hv, q1⟩ := hh
  subst ev
  refine ⟨J.kIn, ?_⟩
  obtain ⟨u, rfl, ru⟩ := vals1 r1
  have hlim := J.nolimit
  obtain ⟨mb, hb, hbb⟩ := J.mod.blt
  have hglob := J.mod.glob.keeps J.bk
  have hbl := hb.keeps J.bk
  obtain ⟨hp, g, dr, tk, os⟩ := z
  refine wpAny_call (PySem.WbX.sup_made T (hok v u hv ru) hform J.kIn hglob hbl hbb hlim (by have := hr.dp; omega) fun h' tk' e d M => ?_)
  show MkP X pins σ Q (.ref e) ⟨h', g, dr, tk', os⟩
  obtain ⟨oe, fv, hoe, hc, hd, hdat, h1⟩ := M.obj
  obtain ⟨G, g1, g2⟩ := restrict h' fun b => decide (b ≠ e)
  have gk : ∀ b, b ≠ e → G.get? b = h'.get? b := fun b hb => g1 b (decide_eq_true hb)
  have ge : G.get? e = none := g2 e (by simp)
  have old : ∀ b o, hp.get? b = some o → G.get? b = some o := fun b o q => (gk b (Nat.ne_of_lt (Nat.lt_of_lt_of_le (Heap.lt_size q) M.new))).trans (M.keep b o q)
  have K1 : Inv X pins σ (upd H1 d (.xd [(f, v)])) ⟨G, g, dr, tk', os⟩ := J.laid (t' := tk') old M.dbig ⟨_, M.ns.at (fun o q => (gk d M.dne).trans q), fun y => relO_one ru f y⟩
  refine ⟨e, oe, fv, ⟨G, g, dr, tk', os⟩, _, .ref C, some d, rfl, K1, fun b o q => ?_, ge, hoe, ⟨hc, hd⟩, hdat, h1, ?_, rfl, J.bare, raises_own T.exC T.tyC, q1 d (J.hok.fresh M.dbig)⟩
  · by_cases hb : b = e
    · have q' : G.get? b = some o := q
      rw [hb, ge] at q'; cases q'
    · exact (gk b hb).symm.trans q
  · rw [upd_ne (Ne.symm M.dne)]
    exact J.hok.fresh M.new
/-- raise X(e) -/
theorem ps_raiseSup {a : Expr} {ta : TA} {W : WX} {p pos pos2 : Pos} {k : Nat} {x : Str} {okv : V → Prop} (hc : X.calm = true) (tk : Takes X W) (gC : X.mg x = some (.ref C)) (T : PySem.WbX.Sup X.prog X.K X.mg C fI cc cda qual f arg args sc) (hok : ∀ v u, okv v → RelV v u → PySem.WbX.ArgOk X.prog X.w arg u) (hform : PySem.WbX.ArgForm arg) (hr : Room k X.A) (ha : PA X [a] ta) (hg : Gl X x := by rfl)
    (hd : (x == ("__debug__" : Str)) = false := by decide) (he : starEach (a :: []) X.env = (false, eval a X.env) :: starEach [] X.env := by rfl) (hpl : (backTo pos (starEach [] X.env)).any (·.1) = false := by rfl) :
    PS X (.Raise (some (.Call (.Name x p) [a] [] pos)) none pos2) (fun _ σ H => tMkSup C f okv ta σ H fun cls d H' => W cls d σ H') := ps_raise hc tk (pmk_sup gC T hok hform hr ha hg hd he hpl)
end
end L2.Wb
/-! WbTy -/
set_option Elab.async false
set_option linter.all false
set_option maxRecDepth 100000
set_option maxHeartbeats 4000000
/-! == of built-in types; a type in a tuple of types. -/
namespace PySem.WbT
open PySem PySem.W PySem.Calls PySem.SeqAt
theorem slot_type_eq : Slot "type" "__eq__" "object.__eq__" := .of (owner := "object") (n := "__eq__") (by rw [typeLookup_type, builtinLookup_eq_fast]; kernel_rfl) (by decide +kernel) (by decide +kernel) (by decide +kernel)
    (by first | exact .inl (by decide +kernel) | exact .inr (by decide +kernel)) (by rw [isSubtype_type]; kernel_rfl)
/-- a plain built-in type -/
def Plain (n : String) : Prop := typeOf (.type n) = pure (.type "type")
theorem plain_str : Plain "str" := by first | kernel_rfl | rfl
theorem plain_int : Plain "int" := by first | kernel_rfl | rfl
theorem plain_bool : Plain "bool" := by first | kernel_rfl | rfl
theorem plain_none : Plain "NoneType" := by first | kernel_rfl | rfl
theorem plain_list : Plain "list" := by first | kernel_rfl | rfl
theorem plain_tuple : Plain "tuple" := by first | kernel_rfl | rfl
theorem plain_dict : Plain "dict" := by first | kernel_rfl | rfl
section
variable {prog : Program} {w : World} {A : Around} {E : Value → Shared → Prop} {s : Shared} {a b : String}
theorem same_ty {M : Model} (h : a ≠ b) {Q : Bool → Shared → Prop} (q : Q false s) : wpAny M A (isSame (.type a) (.type b)) Q E s := by
  have e : (Value.type a == Value.type b) = false := beq_eq_false_iff_ne.mpr fun z => h (Value.type.inj z)
  show wpAny M A (pure (Value.type a == Value.type b)) Q E s
  rw [e]
  exact wpAny_pure q
theorem ty_eq_call (ha : Plain a) (h : a ≠ b) {Q : Value → Shared → Prop} (q : Q .notImplemented s) : wpAny (model prog w) A (call (.builtin "object.__eq__") [.type a, .type b]) Q E s := by
  refine wpAny_call_entry slot_type_eq (show s.TypeIs (.type a) "type" from ha) F.cmpEntry_eq ?_ (F.cmpArgs_eq _ _)
  unfold Builtin.«object.__eq__»
  repeat (first | with_reducible refine same_ty h ?_ | wp_step)
  all_goals exact ⟨_, rfl, q⟩
theorem rc_ty (ha : Plain a) (hb : Plain b) (h : a ≠ b) : RcAt A s (.type a) (.type b) false := fun prog w E Q q => by
  have hTa : s.TypeIs (.type a) "type" := ha
  have hTb : s.TypeIs (.type b) "type" := hb
  simp only [richCompare]
  rcases hi : cmpInfo CmpOp.Eq with ⟨sym, f, r⟩
  cases hi
  have h1 := Shared.TypeIs.oneThing_none hTa (b := .type b) (op := .Eq)
  rw [h1]
  refine wpAny_holding (wpAny_bind (wpAny_cRoomFor_byValue rfl ?_))
  refine wpAny_bind (wpAny_typeOf hTa (wpAny_bind (wpAny_typeOf hTb ?_)))
  rw [show (Value.type "type" != Value.type "type") = false by decide]
  refine wpAny_bind (wpAny_pure ?_)
  simp only [Bool.false_eq_true, if_false, Bool.not_false, if_true]
  refine wpAny_bind (m := tryCompare (.type a) _ (.type b)) (wpAny_tryCompare_declines hTa slot_type_eq (ty_eq_call ha h ⟨rfl, ?_⟩))
  refine wpAny_bind (m := tryCompare (.type b) _ (.type a)) (wpAny_tryCompare_declines hTb slot_type_eq (ty_eq_call hb (fun z => h z.symm) ⟨rfl, ?_⟩))
  exact wpAny_bind (wpAny_rule (wpAny_bind (same_ty h (wpAny_pure q))))
theorem eq_ty (ha : Plain a) (hb : Plain b) : EqAt A s (.type a) (.type b) (decide (a = b)) := fun prog w E Q q => by
  unfold eqBool
  refine wpAny_holding (wpAny_ite_split (fun hab => ?_) (fun hab => ?_))
  · have e : a = b := Value.type.inj (eq_of_beq hab)
    rw [decide_eq_true e] at q
    exact wpAny_bind (wpAny_rule (wpAny_pure q))
  · have e : a ≠ b := fun z => hab (by rw [z]; exact beq_self_eq_true _)
    rw [decide_eq_false e] at q
    exact wpAny_bind (rc_ty ha hb e prog w E _ (wpAny_truthy_bool q))
end
end PySem.WbT
namespace L2.Wb
open PySem PySem.Spec PyProof.Rows
section
variable {X : Cx}
/-- a type in a tuple of types -/
def rTyIn (K : PySem.W.Frag) : R2 := fun x y H Q => ∃ (n : String) (p : Addr) (ns : List String), x = .ty n ∧ y = .ref p ∧ PySem.WbT.Plain n ∧ (∀ m ∈ ns, PySem.WbT.Plain m) ∧ SqT K H p (ns.map V.ty) ∧ Q (.bl (ns.any fun m => decide (m = n))) H
theorem tys_of : ∀ {ns : List String} {us : List Value}, Vals (ns.map V.ty) us → us = ns.map Value.type
  | [], _, .nil => rfl
  | n :: ns, _, .cons r t => by rw [show _ = Value.type n from r, tys_of t]; rfl
theorem op_tyIn : OpR X (compareOp .In) (rTyIn X.K) := by
  intro pins s σ H x y v u Q I rx ry ⟨n, p, ns, ex, ey, hn, hns, ht, q⟩
  subst ex ey
  cases (show v = Value.type n from rx)
  cases (show u = Value.ref p from ry)
  obtain ⟨its, r, pl, _⟩ := I.tuple ht
  cases tys_of r
  refine SeqAt.in_tupleAt (fun z => match z with | .type m => decide (m = n) | _ => false) pl (fun z hz => ?_) ⟨.bl _, H, I, rfl, ?_⟩
  · obtain ⟨m, hm, rfl⟩ := List.mem_map.mp (show z ∈ ns.map Value.type by simpa using hz)
    exact PySem.WbT.eq_ty (hns m hm) hn
  · rw [show (ns.map Value.type).toArray.any (fun z => match z with | .type m => decide (m = n) | _ => false) = ns.any (fun m => decide (m = n)) by simp [List.any_map, Function.comp_def]]
    exact q
end
end L2.Wb
/-! WbSet -/
set_option Elab.async false
set_option linter.all false
set_option maxRecDepth 100000
set_option maxHeartbeats 4000000
/-! len(set(texts)) of any number of texts. -/
namespace PySem.WbS
open PySem PySem.Spec PyProof.Rows
/-- the texts, each once -/
def once : List Str → List Str := List.foldl (fun l v => if l.any (· == v) then l else l ++ [v]) []
theorem once_snoc (l : List Str) (v : Str) : once (l ++ [v]) = if (once l).any (· == v) then once l else once l ++ [v] := by simp [once, List.foldl_append]
theorem any_eq_mem {l : List Str} {v : Str} : l.any (· == v) = true ↔ v ∈ l := by
  simp [List.any_eq_true]
theorem mem_once (v : Str) : ∀ l : List Str, v ∈ once l.reverse ↔ v ∈ l
  | [] => by simp [once]
  | x :: r => by
    rw [List.reverse_cons, once_snoc]
    have ih := mem_once v r
    by_cases h : (once r.reverse).any (· == x) = true
    · rw [if_pos h, ih, List.mem_cons]
      refine ⟨.inr, fun q => q.elim (fun e => ?_) id⟩
      rw [e]; exact (mem_once x r).mp (any_eq_mem.mp h)
    · rw [if_neg h, List.mem_append, ih, List.mem_singleton, List.mem_cons, or_comm]
theorem once_len (l : List Str) : (once l.reverse).length ≤ l.length ∧ ((once l.reverse).length = l.length ↔ l.Nodup) := by
  induction l with
  | nil => simp [once]
  | cons x r ih =>
    rw [List.reverse_cons, once_snoc]
    by_cases h : (once r.reverse).any (· == x) = true
    · rw [if_pos h]
      have hm : x ∈ r := (mem_once x r).mp (any_eq_mem.mp h)
      refine ⟨Nat.le_succ_of_le ih.1, ⟨fun e => ?_, fun n => absurd hm (List.nodup_cons.mp n).1⟩⟩
      have h1 := ih.1
      rw [List.length_cons] at e
      omega
    · rw [if_neg h]
      have hm : x ∉ r := fun q => h (any_eq_mem.mpr ((mem_once x r).mpr q))
      rw [List.length_append, List.length_cons, List.length_cons, List.length_nil]
      refine ⟨Nat.succ_le_succ ih.1, ⟨fun e => List.nodup_cons.mpr ⟨hm, ih.2.mp (by omega)⟩, fun n => by have := ih.2.mpr (List.nodup_cons.mp n).2; omega⟩⟩
theorem once_nodup (l : List Str) : decide ((once l).length = l.length) = decide l.Nodup := by
  have h := once_len l.reverse
  rw [List.reverse_reverse, List.length_reverse, (List.reverse_perm l).nodup_iff] at h
  by_cases n : l.Nodup
  · rw [decide_eq_true n, decide_eq_true (h.2.mpr n)]
  · rw [decide_eq_false n, decide_eq_false fun q => n (h.2.mp q)]
theorem once_le (l : List Str) : (once l).length ≤ l.length := by
  have h := (once_len l.reverse).1
  rw [List.reverse_reverse, List.length_reverse] at h
  exact h
section
variable {prog : Program} {w : World} {A : Around} {R : Result → Shared → Prop} {it : Addr} {fp wr : List Addr} {G : Array GenState → Array GenState → Prop} {n : Nat} {P : Nat → Value → Prop} {Sg : Nat → Shared → Prop}
abbrev SetIs (prog : Program) (w : World) (h : Heap) (a : Addr) (l : List Str) : Prop := h.SetOf (PySem.strKind prog w) a (fun k => (once l).any (· == k)) (once l).length
theorem set_same {h h' : Heap} {a : Addr} {l : List Str} (x : SetIs prog w h a l) (k : ∀ o, h.get? a = some o → h'.get? a = some o) : SetIs prog w h' a l := by
  obtain ⟨o, es, ep, t, ho, r⟩ := x
  exact ⟨o, es, ep, t, k o ho, r⟩
theorem fill (W : WalksS prog w A.in1 it fp wr G n P Sg) (a : Addr) (ha : a ∉ fp) (xs : List Str) (hn : xs.length = n) (hb : n + 1 < scanBound) (hv : ∀ i v, P i v → ∃ t, v = .str (xs.getD i Str.empty) t) :
    ∀ (k : Nat) (i : Nat) (s : Shared), i + k = n → Sg i s → SetIs prog w s.heap a (xs.take i) → (∀ s', Moved (a :: wr) G s s' → SetIs prog w s'.heap a xs → R (.ok (.ret .none)) s') → codeAny (model prog w) A (.builtin "set.update.loop" ⟨[.ref a, .ref it], []⟩) R s
  | 0, i, s, hk, hst, hS, hR => by
    subst hk
    refine codeAny_builtin PyProof.Rows.F.entry_set_update_loop ?_
    rw [Around.under_plainId PyProof.Rows.F.plain_set_update_loop _]
    show wpAny _ A.in1 (pyNext (.ref it) >>= _) _ _ s
    refine wpAny_bind (W.done s _ _ hst fun s' hm => ?_)
    show wpAny _ A.in1 (ret Value.none) _ _ s'
    refine wpAny_pure (hR s' (hm.mono fun b hb => List.mem_cons_of_mem _ hb) ?_)
    rw [List.take_of_length_le (by omega)] at hS
    exact set_same hS fun o e => hm.heap a o (fun q => ha (W.sub _ q)) e
  | k + 1, i, s, hk, hst, hS, hR => by
    have hi : i < n := by omega
    refine codeAny_builtin PyProof.Rows.F.entry_set_update_loop ?_
    rw [Around.under_plainId PyProof.Rows.F.plain_set_update_loop _]
    refine (wpAny_bind (W.item i s _ _ hi hst fun v s' hP hst' hm => ?_) : wpAny _ A.in1 (pyNext (.ref it) >>= _) _ _ s)
    obtain ⟨t, rfl⟩ := hv i v hP
    refine (wpAny_bind (wpAny_holding ?_) : wpAny _ A.in1 (holding [Value.str (xs.getD i Str.empty) t] (setAdd a (.str (xs.getD i Str.empty) t)) >>= _) _ _ s')
    have hx : xs.take (i + 1) = xs.take i ++ [xs.getD i Str.empty] := by
      rw [List.take_succ, List.getD_eq_getElem?_getD]
      cases e : xs[i]? with
      | none => exact absurd (List.getElem?_eq_none_iff.mp e) (by omega)
      | some y => simp
    unfold setAdd
    refine wpAny_holding (wpAny_bind ((PySem.strKind prog w).pyHash (k := xs.getD i Str.empty) (strKind_is _ _ _ _) ?_))
    have room : (once (xs.take i)).length + 1 < scanBound := by
      have := once_le (xs.take i)
      rw [List.length_take] at this
      omega
    refine wpAny_setAddHashed_of (knd := PySem.strKind prog w) (s := { s' with toks := s'.toks + 1 }) (strKind_is _ _ _ _) rfl (set_same hS fun o e => hm.heap a o (fun q => ha (W.sub _ q)) e) room fun h' hsb hS2 => ?_
    have hS3 : SetIs prog w h' a (xs.take (i + 1)) := by
      unfold SetIs
      rw [hx, once_snoc]
      by_cases c : (once (xs.take i)).any (· == xs.getD i Str.empty) = true
      · rw [if_pos c]
        refine SetOf_congr hS2 (fun k' => ?_) (if_pos c)
        by_cases e : k' = xs.getD i Str.empty
        · subst e; simp only [c, Bool.true_or]
        · rw [decide_eq_false e, Bool.or_false]
      · rw [if_neg c]
        refine SetOf_congr hS2 (fun k' => ?_) (by rw [if_neg c]; simp)
        rw [List.any_append, List.any_cons, List.any_nil, Bool.or_false]
        congr 1
        by_cases e : k' = xs.getD i Str.empty
        · subst e; simp
        · rw [decide_eq_false e]; exact (beq_eq_false_iff_ne.mpr fun q => e q.symm).symm
    have apart : ∀ b, b ∈ fp → b ≠ a := fun b hb e => ha (e ▸ hb)
    refine wpAny_pure ⟨plainId_quiet PyProof.Rows.F.plain_set_update_loop _, fill W a ha xs hn hb hv k (i + 1) _ (by omega) (W.frame _ s' _ _ hst' (Nat.le_succ _) fun b hb o e => (hsb.2 b (apart b hb)).trans e) hS3 fun s2 hm2 hS4 => ?_⟩
    refine hR s2 (Moved.trans W.gtrans ((hm.mono fun b hb => List.mem_cons_of_mem _ hb).then_heap (Nat.le_succ _) fun b o hb e => (hsb.2 b fun q => hb (by rw [q]; exact List.mem_cons_self)).trans e) hm2) hS4
end
section
variable {prog : Program} {w : World} {A : Around} {E : Value → Shared → Prop} {s : Shared}
abbrev bare (led : Bool) : Obj := { cls := .type "set", dict := none, data := .set #[] 0 (.fresh 0 0 led) }
set_option maxHeartbeats 8000000 in
theorem set_of_list {l : Addr} {items : Array Value} {xs : List Str} {Q : Value → Shared → Prop} (hh : A.handled = none) (hl : s.heap.IsList l items) (hi : StrsAre items.toList xs) (hb : xs.length + 1 < scanBound)
    (fin : ∀ (h' : Heap) (tk : Nat), SetIs prog w h' s.heap.objs.size xs → (∀ b o, s.heap.get? b = some o → h'.get? b = some o) → Q (.ref s.heap.objs.size) { s with heap := h', toks := tk }) : wpAny (model prog w) A (call (.type "set") [.ref l]) Q E s := by
  have fc := PySem.F.called_set
  obtain ⟨c, tl, hmro⟩ := fc.mro
  have hmade := fc.made; have hsub := fc.sub; have h1 := fc.notType; have h2 := fc.canCreate; have hct := PySem.F.typeCall_set_1 (.ref l)
  refine wpAny_call (codeAny_of_tree (show wpAny _ _ (callAny (.type "set") _) _ _ _ from wpAny_pure ⟨Code.quiet_builtin _ (by decide +kernel), codeAny_builtin PySem.F.entry_type_call ?_⟩))
  rw [Around.under_plain (weight_type_call_type "set" [.ref l] []) rfl]
  repeat (any_goals (first | assumption | wp_step))
  refine codeAny_mono (code_set_new_1 (.ref l) (E := E) (Q₁ := fun o z => ∃ led : Bool, o = .ref s.heap.objs.size ∧ z = { s with heap := s.heap.push (bare led) }) fun led => ⟨led, rfl, rfl⟩) fun r z hr => ?_
  match r, hr with
  | .error e, hr => exact hr
  | .ok .next, hr => exact hr.elim
  | .ok .brk, hr => exact hr.elim
  | .ok .cont, hr => exact hr.elim
  | .ok (.ret o), ⟨led, e1, e2⟩ =>
    subst e1 e2
    have hS : (s.heap.push (bare led)).get? s.heap.objs.size = some (bare led) := Heap.get?_push_size _ rfl
    have hT : Shared.TypeIs { s with heap := s.heap.push (bare led) } (.ref s.heap.objs.size) "set" := ⟨_, hS, rfl⟩
    have hli := fc.init.lookup
    have hbi := fc.init.bind (.ref s.heap.objs.size)
    repeat (any_goals (first | assumption | wp_step))
    refine codeAny_mono (codeAny_call_builtin (R := wants (fun r z => r = .none ∧ ∃ h' tk, z = { s with heap := h', toks := tk } ∧ SetIs prog w h' s.heap.objs.size xs ∧ ∀ b o, s.heap.get? b = some o → h'.get? b = some o) E) fc.init.plain PySem.F.entry_set_init (check_set_init_1 hT ?_)) fun r z hr => ?_
    · obtain ⟨⟨ocls, odict, odata, oslots⟩, hol, hcl, nl, hdl⟩ := hl
      simp only at hcl hdl
      subst hcl hdl
      have hol' : (s.heap.push (bare led)).get? l = some { cls := .type "list", dict := odict, data := .seq items nl, slots := oslots } := Heap.get?_push_of_some _ hol
      have hs1 := PySem.F.sub_list_set; have hs2 := PySem.F.sub_list_frozenset
      have hne : (Value.type "list" == Value.type "dict") = false := by decide
      have hl1 : (s.heap.push (bare led)).IsList l items := ⟨_, hol', rfl, nl, rfl⟩
      unfold Builtin.«set.__init__» noKeywords Builtin.Frozenset.updateFrom
      generalize hPI : pyIter = PI
      wp_walk
      subst hPI
      refine wpAny_pyIter_list hl1 (wpAny_bind (wpAny_runValue ?_))
      have hlS : l < s.heap.objs.size := Heap.lt_size hol
      have hneI : l ≠ (s.heap.push (bare led)).objs.size := by rw [Heap.size_push]; exact Nat.ne_of_lt (Nat.lt_succ_of_lt hlS)
      have hz : xs.length = items.size := by rw [← Array.length_toList]; exact hi.length.symm
      refine fill ((Walks.list (show A.in1.in1.in1.handled = none by simp [hh]) _ l hneI items).toS) s.heap.objs.size ?_ xs hz (by rw [← hz]; exact hb) (fun i v hv => SS.strs_at hi i v (by rw [Array.getElem?_toList]; exact hv)) items.size 0 _ (Nat.zero_add _)
        ⟨⟨_, Heap.get?_push_size _ rfl, rfl, rfl⟩, (hl1.push _)⟩ ?_ ?_
      · rw [Heap.size_push]
        simp only [List.mem_cons, List.mem_singleton, List.not_mem_nil, or_false, not_or]
        exact ⟨Nat.ne_of_lt (Nat.lt_succ_self _), Nat.ne_of_gt hlS⟩
      · have hget : ((s.heap.push (bare led)).push { cls := .type "list_iterator", data := .fields #[.ref l, .int 0 0] }).get? s.heap.objs.size = some (bare led) := Heap.get?_push_of_some _ hS
        exact SetOf_congr ((setObjOf_fresh (knd := PySem.strKind prog w) led).setOf hget (by unfold scanBound; omega)) (fun _ => rfl) rfl
      · intro s' hm hS'
        obtain ⟨h', g', d', tk', os'⟩ := s'
        have eg : g' = s.gens := hm.gens
        have ed : d' = s.drawn := hm.drawn
        have eo : os' = s.os := hm.os
        subst eg ed eo
        show wpAny _ _ _ _ _ _
        refine wpAny_pure ?_
        show wpAny _ _ (ret Value.none) _ _ _
        refine wpAny_pure ⟨rfl, h', tk', rfl, hS', fun b o e => hm.heap b o ?_ (Heap.get?_push_of_some _ (Heap.get?_push_of_some _ e))⟩
        have hlt := Heap.lt_size e
        rw [Heap.size_push]
        simp only [List.mem_cons, List.mem_singleton, List.not_mem_nil, or_false, not_or]
        exact ⟨Nat.ne_of_lt hlt, Nat.ne_of_lt (Nat.lt_succ_of_lt hlt)⟩
    · match r, hr with
      | .error e, hr => exact hr
      | .ok .next, hr => exact hr.elim
      | .ok .brk, hr => exact hr.elim
      | .ok .cont, hr => exact hr.elim
      | .ok (.ret q), ⟨e1, h', tk, e2, hS', hk'⟩ =>
        subst e1 e2
        repeat (any_goals (first | assumption | wp_step))
        exact fin _ _ hS' hk'
set_option maxHeartbeats 8000000 in
theorem set_of_tuple {l : Addr} {items : Array Value} {xs : List Str} {Q : Value → Shared → Prop} (hh : A.handled = none) (hl : s.heap.IsTuple l items) (hi : StrsAre items.toList xs) (hb : xs.length + 1 < scanBound)
    (fin : ∀ (h' : Heap) (tk : Nat), SetIs prog w h' s.heap.objs.size xs → (∀ b o, s.heap.get? b = some o → h'.get? b = some o) → Q (.ref s.heap.objs.size) { s with heap := h', toks := tk }) : wpAny (model prog w) A (call (.type "set") [.ref l]) Q E s := by
  have fc := PySem.F.called_set
  obtain ⟨c, tl, hmro⟩ := fc.mro
  have hmade := fc.made; have hsub := fc.sub; have h1 := fc.notType; have h2 := fc.canCreate; have hct := PySem.F.typeCall_set_1 (.ref l)
  refine wpAny_call (codeAny_of_tree (show wpAny _ _ (callAny (.type "set") _) _ _ _ from wpAny_pure ⟨Code.quiet_builtin _ (by decide +kernel), codeAny_builtin PySem.F.entry_type_call ?_⟩))
  rw [Around.under_plain (weight_type_call_type "set" [.ref l] []) rfl]
  repeat (any_goals (first | assumption | wp_step))
  refine codeAny_mono (code_set_new_1 (.ref l) (E := E) (Q₁ := fun o z => ∃ led : Bool, o = .ref s.heap.objs.size ∧ z = { s with heap := s.heap.push (bare led) }) fun led => ⟨led, rfl, rfl⟩) fun r z hr => ?_
  match r, hr with
  | .error e, hr => exact hr
  | .ok .next, hr => exact hr.elim
  | .ok .brk, hr => exact hr.elim
  | .ok .cont, hr => exact hr.elim
  | .ok (.ret o), ⟨led, e1, e2⟩ =>
    subst e1 e2
    have hS : (s.heap.push (bare led)).get? s.heap.objs.size = some (bare led) := Heap.get?_push_size _ rfl
    have hT : Shared.TypeIs { s with heap := s.heap.push (bare led) } (.ref s.heap.objs.size) "set" := ⟨_, hS, rfl⟩
    have hli := fc.init.lookup
    have hbi := fc.init.bind (.ref s.heap.objs.size)
    repeat (any_goals (first | assumption | wp_step))
    refine codeAny_mono (codeAny_call_builtin (R := wants (fun r z => r = .none ∧ ∃ h' tk, z = { s with heap := h', toks := tk } ∧ SetIs prog w h' s.heap.objs.size xs ∧ ∀ b o, s.heap.get? b = some o → h'.get? b = some o) E) fc.init.plain PySem.F.entry_set_init (check_set_init_1 hT ?_)) fun r z hr => ?_
    · obtain ⟨⟨ocls, odict, odata, oslots⟩, hol, hcl, nl, hdl⟩ := hl
      simp only at hcl hdl
      subst hcl hdl
      have hol' : (s.heap.push (bare led)).get? l = some { cls := .type "tuple", dict := odict, data := .seq items nl, slots := oslots } := Heap.get?_push_of_some _ hol
      have hs1 := PySem.F.sub_tuple_set; have hs2 := PySem.F.sub_tuple_frozenset
      have hne : (Value.type "tuple" == Value.type "dict") = false := by decide
      have hl1 : (s.heap.push (bare led)).IsTuple l items := ⟨_, hol', rfl, nl, rfl⟩
      unfold Builtin.«set.__init__» noKeywords Builtin.Frozenset.updateFrom
      generalize hPI : pyIter = PI
      wp_walk
      subst hPI
      refine wpAny_pyIter_tuple hl1 (wpAny_bind (wpAny_runValue ?_))
      have hlS : l < s.heap.objs.size := Heap.lt_size hol
      have hneI : l ≠ (s.heap.push (bare led)).objs.size := by rw [Heap.size_push]; exact Nat.ne_of_lt (Nat.lt_succ_of_lt hlS)
      have hz : xs.length = items.size := by rw [← Array.length_toList]; exact hi.length.symm
      refine fill ((Walks.tuple (show A.in1.in1.in1.handled = none by simp [hh]) _ l hneI items).toS) s.heap.objs.size ?_ xs hz (by rw [← hz]; exact hb) (fun i v hv => SS.strs_at hi i v (by rw [Array.getElem?_toList]; exact hv)) items.size 0 _ (Nat.zero_add _)
        ⟨⟨_, Heap.get?_push_size _ rfl, rfl, rfl⟩, (hl1.push _)⟩ ?_ ?_
      · rw [Heap.size_push]
        simp only [List.mem_cons, List.mem_singleton, List.not_mem_nil, or_false, not_or]
        exact ⟨Nat.ne_of_lt (Nat.lt_succ_self _), Nat.ne_of_gt hlS⟩
      · have hget : ((s.heap.push (bare led)).push { cls := .type "tuple_iterator", data := .fields #[.ref l, .int 0 0] }).get? s.heap.objs.size = some (bare led) := Heap.get?_push_of_some _ hS
        exact SetOf_congr ((setObjOf_fresh (knd := PySem.strKind prog w) led).setOf hget (by unfold scanBound; omega)) (fun _ => rfl) rfl
      · intro s' hm hS'
        obtain ⟨h', g', d', tk', os'⟩ := s'
        have eg : g' = s.gens := hm.gens
        have ed : d' = s.drawn := hm.drawn
        have eo : os' = s.os := hm.os
        subst eg ed eo
        show wpAny _ _ _ _ _ _
        refine wpAny_pure ?_
        show wpAny _ _ (ret Value.none) _ _ _
        refine wpAny_pure ⟨rfl, h', tk', rfl, hS', fun b o e => hm.heap b o ?_ (Heap.get?_push_of_some _ (Heap.get?_push_of_some _ e))⟩
        have hlt := Heap.lt_size e
        rw [Heap.size_push]
        simp only [List.mem_cons, List.mem_singleton, List.not_mem_nil, or_false, not_or]
        exact ⟨Nat.ne_of_lt hlt, Nat.ne_of_lt (Nat.lt_succ_of_lt hlt)⟩
    · match r, hr with
      | .error e, hr => exact hr
      | .ok .next, hr => exact hr.elim
      | .ok .brk, hr => exact hr.elim
      | .ok .cont, hr => exact hr.elim
      | .ok (.ret q), ⟨e1, h', tk, e2, hS', hk'⟩ =>
        subst e1 e2
        repeat (any_goals (first | assumption | wp_step))
        exact fin _ _ hS' hk'
end
end PySem.WbS
namespace L2.Wb
open PySem PySem.Spec PyProof.Rows
/-- len(set(xs)), xs a list or tuple of texts -/
def tLenOnce (K : PySem.W.Frag) (ta : TE) : TE := fun σ H Q => ta σ H fun x H1 => ∃ (l : Addr) (xs : List Str), x = .ref l ∧ (SqL K H1 l (xs.map V.str) ∨ SqT K H1 l (xs.map V.str)) ∧ xs.length ≤ 1000 ∧ Q (.int ((PySem.WbS.once xs).length : Nat)) H1
theorem pe_lenOnce {X : Cx} {a : Expr} {ta : TE} {p p2 q pos : Pos} (hc : X.calm = true) (hg : Gl X "len") (hm : X.mg "len" = none) (hg2 : Gl X "set") (hm2 : X.mg "set" = none) (ha : PE X a ta)
    (na : starEach [a] X.env = (false, eval a X.env) :: starEach [] X.env := by rfl) : PE X (.Call (.Name "len" p) [.Call (.Name "set" p2) [a] [] q] [] pos) (tLenOnce X.K ta) := by
  refine ⟨fun pins s σ H Q I h => Call_ (ld_blt I hg hm boot_len (callWith_builtin1 (args_cons ?_ rfl) rfl rfl))⟩
  refine Call_ (ld_blt I hg2 hm2 boot_set (callWith_type1 (args_cons (thn (ha.run pins s σ H _ I h) fun v z hz => args_nil ?_) na) na rfl))
  obtain ⟨x, H1, J, r1, l, xs, e, hq, h1, q1⟩ := hz
  subst e
  cases (show v = Value.ref l from r1)
  have hb : xs.length + 1 < scanBound := by unfold scanBound; omega
  have fin : ∀ (h' : Heap) (tk : Nat), PySem.WbS.SetIs X.prog X.w h' z.heap.objs.size xs → (∀ b o, z.heap.get? b = some o → h'.get? b = some o) →
      wpAny (model X.prog X.w) X.A (spliced (backTo pos (starEach [] X.env))) (fun vs s₂ => wpAny (model X.prog X.w) X.A (call (.builtin "len") (Value.ref z.heap.objs.size :: vs)) (EP X pins σ Q) X.xe s₂) X.xe { z with heap := h', toks := tk } := fun h' tk hS hk => by
    have hle := PySem.WbS.once_le xs
    obtain ⟨o, es, ep, t, ho, hex, hd, _, _, _, hf, hn⟩ := hS
    have J2 : Inv X pins σ H1 { z with heap := h', toks := tk } := J.kept hk
    exact args_nil (call_len_set ho hex hd hf (by rw [hn]; omega) ⟨.int ((PySem.WbS.once xs).length : Nat), H1, J2.tok _, ⟨_, by rw [hn]⟩, q1⟩)
  rcases hq with hq | hq
  · obtain ⟨its, r, pl, _⟩ := J.list hq
    exact PySem.WbS.set_of_list (J.ok.hd hc) pl.isList (by simpa using r.strs) hb fin
  · obtain ⟨its, r, pl, _⟩ := J.tuple hq
    exact PySem.WbS.set_of_tuple (J.ok.hd hc) pl (by simpa using r.strs) hb fin
end L2.Wb
/-! K01a -/
set_option Elab.async false
set_option linter.all false
set_option maxRecDepth 100000
set_option maxHeartbeats 4000000
namespace L2.K01
open PySem PySem.Spec PyProof.Rows L2.Wb
/-! ### the text by places -/
def top (i : Nat) : Stmt := PySem.Challenge.pw_wearybeams_k01_yards_known.main.body.getD i (.Pass ⟨0, 0, 0, 0⟩)
abbrev sNum : Stmt := top 5
abbrev sLst : Stmt := top 6
abbrev sName : Stmt := top 10
abbrev sNames : Stmt := top 11
abbrev sThings : Stmt := top 12
abbrev sBeam : Stmt := top 13
abbrev sBeams : Stmt := top 14
abbrev sFew : Stmt := top 15
/-! ### the data -/
def isLow (c : Nat) : Bool := decide (97 ≤ c) && decide (c ≤ 122)
def isNameS (x : Str) : Bool := decide (1 ≤ x.length) && decide (x.length ≤ 8) && x.cps.toList.all isLow
def isUp (c : Nat) : Bool := decide (65 ≤ c) && decide (c ≤ 90)
theorem tabU : ∀ c, c < 128 → (Unicode.isAlpha c = (isUp c || isLow c) ∧ Unicode.isLower c = isLow c ∧ (Unicode.isUpper c || Unicode.isTitle c) = isUp c) := by decide +kernel
theorem low_up {c : Nat} (h : isLow c = true) : isUp c = false ∧ c < 128 := by
  unfold isLow at h; unfold isUp
  simp at h ⊢; omega
theorem name_ok (x : Str) : (decide ((x.length : Int) ≤ 8) && (Txt.isascii x && (Txt.isalpha x && Txt.islower x))) = isNameS x := by
  have hl : x.length = x.cps.toList.length := by simp [Str.length]
  have e8 : decide ((x.length : Int) ≤ 8) = decide (x.length ≤ 8) := by
    by_cases c : x.length ≤ 8
    · rw [decide_eq_true c, decide_eq_true (by omega)]
    · rw [decide_eq_false c, decide_eq_false (by omega)]
  rw [e8]
  unfold isNameS Txt.isascii Txt.isalpha Txt.islower
  rw [← Array.all_toList, ← Array.all_toList, ← Array.any_toList, ← Array.any_toList]
  generalize x.cps.toList = l at *
  rw [Bool.eq_iff_iff]
  simp only [Bool.and_eq_true, decide_eq_true_eq, List.all_eq_true, Bool.not_eq_true', List.any_eq_true, List.any_eq_false]
  constructor
  · rintro ⟨h1, h2, ⟨h3, h4⟩, ⟨c, hc, h5⟩, h6⟩
    refine ⟨⟨by omega, h1⟩, fun z hz => ?_⟩
    obtain ⟨a1, a2, a3⟩ := tabU z (by simpa using h2 z hz)
    have b1 := h4 z hz
    rw [a1] at b1
    have b2 := h6 z hz
    rw [a3] at b2
    simpa [Bool.eq_false_iff.mpr b2] using b1
  · rintro ⟨⟨h1, h2⟩, h3⟩
    refine ⟨h2, fun z hz => by simpa using (low_up (h3 z hz)).2, ⟨by omega, fun z hz => ?_⟩, ?_, fun z hz => ?_⟩
    · rw [(tabU z (low_up (h3 z hz)).2).1, h3 z hz, Bool.or_true]
    · cases l with
      | nil => simp at hl; omega
      | cons c r => exact ⟨c, List.mem_cons_self, by rw [(tabU c (low_up (h3 c List.mem_cons_self)).2).2.1]; exact h3 c List.mem_cons_self⟩
    · rw [(tabU z (low_up (h3 z hz)).2).2.2, (low_up (h3 z hz)).1]; exact Bool.false_ne_true
def isNameD : PyData → Bool
  | .str x => isNameS x
  | _ => false
def isNumD (lo hi : Int) : PyData → Bool
  | .int i => decide (lo ≤ i) && decide (i ≤ hi)
  | _ => false
def seqOf : PyData → Option (List PyData)
  | .list ds => some ds
  | .tuple ds => some ds
  | _ => none
def strOf : PyData → Str
  | .str x => x
  | _ => Str.empty
def namesD (ds : List PyData) : Bool := ds.all isNameD && decide (ds.map strOf).Nodup
def thingsD (d : PyData) : Bool := match seqOf d with
  | some ds => decide (1 ≤ ds.length) && decide (ds.length ≤ 8) && namesD ds
  | none => false
def beamD : PyData → Bool
  | .tuple [_, st] => isNumD (-5) 5 st && !isNumD 0 0 st
  | _ => false
def fstD : PyData → PyData
  | .tuple (a :: _) => a
  | _ => .none
def beamsD (d : PyData) : Bool := match seqOf d with
  | some ds => decide (1 ≤ ds.length) && decide (ds.length ≤ 3) && (ds.all beamD && namesD (ds.map fstD))
  | none => false
def tyName : PyData → String
  | .none => "NoneType" | .bool _ => "bool" | .int _ => "int" | .str _ => "str" | .list _ => "list" | .tuple _ => "tuple" | .dict _ => "dict"
theorem plain_ty (d : PyData) : PySem.WbT.Plain (tyName d) := by
  cases d
  · exact PySem.WbT.plain_none
  · exact PySem.WbT.plain_bool
  · exact PySem.WbT.plain_int
  · exact PySem.WbT.plain_str
  · exact PySem.WbT.plain_list
  · exact PySem.WbT.plain_tuple
  · exact PySem.WbT.plain_dict
theorem _root_.L2.Wb.Dx.tyB {K : PySem.W.Frag} {H : Hp} {x : V} {d : PyData} (h : Dx H x d) : TyB K H x (tyName d) := by
  cases h with
  | non => exact .non
  | bl b => exact .bl b
  | int i => exact .int i
  | str y => exact .str y
  | lst a _ => exact .lst (SqL.of a)
  | tup a _ => exact .tup (SqT.of a)
  | dct a _ => exact .dK a
theorem _root_.L2.Wb.Dx.tyX {K : PySem.W.Frag} {H : Hp} {x : V} {d : PyData} (h : Dx H x d) : TyX K H x (.type (tyName d)) := by
  cases h with
  | non => exact .base .non
  | bl b => exact .base (.bl b)
  | int i => exact .base (.int i)
  | str y => exact .base (.str y)
  | lst a _ => exact .base (.lst a)
  | tup a _ => exact .base (.tup a)
  | dct a _ => exact .base (.dK a)
/-! ### the promises -/
/-- texts are short enough to be measured -/
def ShortD : PyData → Prop
  | .str x => x.length ≤ 1000
  | _ => True
def spNum : Sp := fun vs H Q _ => ∃ (x : V) (d : PyData) (lo hi : Int), vs = [x, .int lo, .int hi] ∧ Dx H x d ∧ Q (.bl (isNumD lo hi d)) H
def spLst : Sp := fun vs H Q _ => ∃ (x : V) (d : PyData), vs = [x] ∧ Dx H x d ∧ ∀ H', Same H H' → Q (.bl (seqOf d).isSome) H'
def spName : Sp := fun vs H Q _ => ∃ (x : V) (d : PyData), vs = [x] ∧ Dx H x d ∧ ShortD d ∧ Q (.bl (isNameD d)) H
structure Txt (K : PySem.W.Frag) (mg : Str → Option Value) : Prop where
  nty : mg "type" = none
  nint : mg "int" = none
  nlst : mg "list" = none
  ntup : mg "tuple" = none
  nstr : mg "str" = none
  nlen : mg "len" = none
  nall : mg "all" = none
  nset : mg "set" = none
section
variable {P : Program} {w : World} {K : PySem.W.Frag} {mg : Str → Option Value} {base : Heap}
theorem scNum : FnScope ["thing", "first", "last"] ["thing", "first", "last"] (defScope sNum) := ⟨rfl, rfl, rfl, by decide +kernel, rfl, by decide +kernel, by decide +kernel⟩
theorem ok_num {f : Addr} {fd : FuncData} (F : Fun K "is_number" "is_number" sNum f fd) (T : Txt K mg) : FnOk P w K mg base CX0 1 f fd ["thing", "first", "last"] spNum := by
  refine F.ok scNum (fun vs H Q E h => ?_) (fun cdv A outer s H vs Q E hr h => ?_)
  · obtain ⟨_, _, _, _, rfl, _⟩ := h; rfl
  · obtain ⟨x, d, lo, hi, rfl, hd, k⟩ := h
    refine ⟨_, pss_one (ps_ret (pe_and (pe_cmpR op_isTyB (pe_callTy call_type1 (by rfl) T.nty (by decide +kernel) (pa_cons (pv 0) pa_nil)) (pe_bltn (v := .ty "int") (by rfl) T.nint (by decide +kernel) rfl) (nomark _))
      (pe_one (pe_chain op_le op_le (pv 1) (pv 0) (pv 2))))), ?_⟩
    refine ⟨_, rfl, _, _, rfl, hd.tyB, _, _, rfl, rfl, _, rfl, ?_⟩
    cases hd with
    | int i =>
      refine iteT ?_
      refine ⟨_, rfl, _, rfl, _, _, rfl, rfl, _, rfl, ?_⟩
      by_cases c : lo ≤ i
      · rw [decide_eq_true c]
        refine iteT ⟨_, rfl, _, _, rfl, rfl, ?_⟩
        simpa [isNumD, c] using k
      · rw [decide_eq_false c]
        refine iteF ?_
        simpa [isNumD, c] using k
    | non => exact iteF k
    | bl b => exact iteF k
    | str y => exact iteF k
    | lst a b => exact iteF k
    | tup a b => exact iteF k
    | dct a b => exact iteF k
theorem scLst : FnScope ["thing"] ["thing"] (defScope sLst) := ⟨rfl, rfl, rfl, by decide +kernel, rfl, by decide +kernel, by decide +kernel⟩
theorem ok_lst {f : Addr} {fd : FuncData} (F : Fun K "is_list" "is_list" sLst f fd) (T : Txt K mg) : FnOk P w K mg base CX0 1 f fd ["thing"] spLst := by
  refine F.ok scLst (fun vs H Q E h => ?_) (fun cdv A outer s H vs Q E hr h => ?_)
  · obtain ⟨_, _, rfl, _⟩ := h; rfl
  · obtain ⟨x, d, rfl, hd, k⟩ := h
    refine ⟨_, pss_one (ps_ret (pe_cmpR op_tyIn (pe_callTy call_type1 (by rfl) T.nty (by decide +kernel) (pa_cons (pv 0) pa_nil))
      (pe_tup (pa_cons (pe_bltn (v := .ty "list") (by rfl) T.nlst (by decide +kernel) rfl) (pa_cons (pe_bltn (v := .ty "tuple") (by rfl) T.ntup (by decide +kernel) rfl) pa_nil))) (by rfl))), ?_⟩
    refine ⟨_, rfl, _, _, rfl, hd.tyB, (by show 2 ≤ sizeLine; decide), fun p hp => ?_⟩
    refine ⟨_, p, ["list", "tuple"], rfl, rfl, plain_ty d, ?_, SqT.of upd_same, ?_⟩
    · intro m hm
      simp at hm
      rcases hm with rfl | rfl
      · exact PySem.WbT.plain_list
      · exact PySem.WbT.plain_tuple
    · have e : (["list", "tuple"].any fun m => decide (m = tyName d)) = (seqOf d).isSome := by cases d <;> simp [tyName, seqOf] <;> decide
      rw [e]
      exact k _ fun b o z => by rw [upd_ne (ne_of_none z hp)]; exact z
theorem scName : FnScope ["thing"] ["thing"] (defScope sName) := ⟨rfl, rfl, rfl, by decide +kernel, rfl, by decide +kernel, by decide +kernel⟩
theorem ok_name {f : Addr} {fd : FuncData} (F : Fun K "is_name" "is_name" sName f fd) (T : Txt K mg) : FnOk P w K mg base CX0 1 f fd ["thing"] spName := by
  refine F.ok scName (fun vs H Q E h => ?_) (fun cdv A outer s H vs Q E hr h => ?_)
  · obtain ⟨_, _, rfl, _⟩ := h; rfl
  · obtain ⟨x, d, rfl, hd, hz, k⟩ := h
    refine ⟨_, pss_one (ps_ret (pe_and (pe_cmpR op_isTyB (pe_callTy call_type1 (by rfl) T.nty (by decide +kernel) (pa_cons (pv 0) pa_nil)) (pe_bltn (v := .ty "str") (by rfl) T.nstr (by decide +kernel) rfl) (nomark _))
      (pe_and (pe_cmpR op_le (pe_callB call_len_str (by rfl) T.nlen PySem.boot_len (pa_cons (pv 0) pa_nil)) pe_int (nomark _))
      (pe_and (pe_bm0 PySem.F.plainAttrs_str PySem.F.slot_str_isascii PySem.F.type_str_isascii mt_isascii (pv 0))
      (pe_and (pe_bm0 PySem.F.plainAttrs_str PySem.F.slot_str_isalpha PySem.F.type_str_isalpha mt_isalpha (pv 0))
      (pe_one (pe_bm0 PySem.F.plainAttrs_str PySem.F.slot_str_islower PySem.F.type_str_islower mt_islower (pv 0)))))))), ?_⟩
    refine ⟨_, rfl, _, _, rfl, hd.tyB, _, _, rfl, rfl, _, rfl, ?_⟩
    cases hd with
    | str y =>
      have hz' : y.length ≤ 1000 := hz
      rw [show isNameD (.str y) = isNameS y from rfl, ← name_ok y] at k
      refine iteT ⟨_, rfl, _, rfl, Nat.le_trans hz' (by decide), _, _, rfl, rfl, _, rfl, ?_⟩
      by_cases c : (y.length : Int) ≤ 8
      · rw [decide_eq_true c] at k ⊢
        refine iteT ⟨_, rfl, rfl, _, rfl, rfl, trivial, _, rfl, ?_⟩
        cases ca : Txt.isascii y
        · rw [ca] at k; exact iteF k
        · rw [ca] at k
          refine iteT ⟨_, rfl, rfl, _, rfl, rfl, trivial, _, rfl, ?_⟩
          cases cb : Txt.isalpha y
          · rw [cb] at k; exact iteF k
          · rw [cb] at k
            exact iteT ⟨_, rfl, rfl, _, rfl, rfl, trivial, k⟩
      · rw [decide_eq_false c] at k ⊢
        exact iteF k
    | non => exact iteF k
    | bl b => exact iteF k
    | int y => exact iteF k
    | lst a b => exact iteF k
    | tup a b => exact iteF k
    | dct a b => exact iteF k
end
end L2.K01
/-! WbWalk -/
set_option Elab.async false
set_option linter.all false
set_option maxRecDepth 100000
set_option maxHeartbeats 4000000
/-! A local that holds a list or a tuple, walked; loops and comprehensions over either. -/
namespace L2.Wb
open PySem PySem.Spec PyProof.Rows
inductive Wk (K : PySem.W.Frag) (a : Addr) (xs : List V) : It → (Hp → Prop) → Prop
  | l : Wk K a xs (Itl K a) fun H => SqL K H a xs
  | t : Wk K a xs (Itt K a) fun H => SqT K H a xs
theorem sameT {K : PySem.W.Frag} {H H' : Hp} {a : Addr} {xs : List V} (e : Same H H') (h : SqT K H a xs) : SqT K H' a xs := Or.imp (fun r => Or.imp (e _ _) (fun ⟨o, z⟩ => ⟨o, e _ _ z⟩) r) id h
def iSeqV (K : PySem.W.Frag) (i : Nat) : TI := fun σ H R => ∃ (a : Addr) (xs : List V) (J : It) (S : Hp → Prop), σ[i]? = some (some (.ref a)) ∧ Wk K a xs J S ∧ S H ∧ R J H
theorem pi_seqV {X : Cx} {tg : Expr} (i : Nat) {x : Str} {pos : Pos} (hN : X.N[i]? = some x := by rfl) (hv : Vis X.env.scope x := by first | exact Or.inl rfl | exact Or.inr (Or.inl rfl) | exact Or.inr (Or.inr rfl)) (hd : (x == ("__debug__" : Str)) = false := by decide)
    (hcd : (x == ("__classdict__" : Str)) = false := by decide) : PI X tg (.Name x pos) (iSeqV X.K i) := by
  refine ⟨fun pins s σ H R I ⟨a, xs, J, S, hs, wk, hS, hR⟩ => ?_⟩
  cases wk with
  | l => exact (pi_list (pe_var hN hv hd hcd)).run pins s σ H R I ⟨_, hs, a, rfl, ⟨xs, hS⟩, hR⟩
  | t => exact (pi_tup (pe_var hN hv hd hcd)).run pins s σ H R I ⟨_, hs, a, rfl, ⟨xs, hS⟩, hR⟩
section
variable {K : PySem.W.Frag} {a : Addr} {xs : List V} {J : It} {S : Hp → Prop}
theorem Wk.stay (w : Wk K a xs J S) {H H' : Hp} (e : Same H H') (h : S H) : S H' := by
  cases w with
  | l => exact e.seq h
  | t => exact sameT e h
theorem lc_wk (wk : Wk K a xs J S) {g : TG} {tt : TT} {te : TE} {vs : List Nat} {σ : L2.St} {H1 : Hp} {D : Addr} {Qd : Hp → Prop} (Pv : Nat → Hp → Prop) (h0 : Pv 0 (upd H1 D (.lst []))) (hl : ∀ i H, i ≤ xs.length → Pv i H → S H)
    (hs : ∀ i x H, xs[i]? = some x → Pv i H → g x (wipe σ vs) H fun σ2 H2 => wipe σ2 vs = wipe σ vs ∧ tt σ2 H2 fun b H3 => if b = true then te σ2 H3 fun y H4 => ∃ acc, H4 D = some (.lst acc) ∧ acc.length < sizeLine ∧ Pv (i + 1) (upd H4 D (.lst (acc ++ [y]))) else Pv (i + 1) H3) (hd : ∀ H, Pv xs.length H → Qd H) :
    ∃ W : Nat → Nat → Hp → Prop, (∃ m, W 0 m (upd H1 D (.lst []))) ∧ ∀ i m H, W i m H → (J.stop i H ∧ Qd H) ∨ (J.go i H ∧ ∃ Nx : Hp → Prop, (∀ H', Nx H' → ∃ m', m' < m ∧ W (i + 1) m' H') ∧ ∀ x H', J.yld i H x H' → g x (wipe σ vs) H' fun σ2 H2 => wipe σ2 vs = wipe σ vs ∧ tt σ2 H2 fun b H3 =>
      if b = true then te σ2 H3 fun y H4 => ∃ acc, H4 D = some (.lst acc) ∧ acc.length < sizeLine ∧ Nx (upd H4 D (.lst (acc ++ [y]))) else Nx H3) := by
  cases wk with
  | l => exact lc_list Pv h0 hl hs hd
  | t => exact lc_tup Pv h0 hl hs hd
theorem for_wk (wk : Wk K a xs J S) {g : TG} {tb : TS} {D : Ends} {σ : L2.St} {H : Hp} (Pv : Nat → L2.St → Hp → Prop) (h0 : Pv 0 σ H) (hl : ∀ i σ H, i ≤ xs.length → Pv i σ H → S H)
    (hs : ∀ i x σ H, xs[i]? = some x → Pv i σ H → g x σ H fun σ2 H2 => tb { D with nx := Pv (i + 1), ct := Pv (i + 1), bk := D.nx } σ2 H2) (hd : ∀ σ H, Pv xs.length σ H → D.nx σ H) :
    ∃ W : Nat → Nat → L2.St → Hp → Prop, (∃ m, W 0 m σ H) ∧ ∀ i m σ H, W i m σ H → (J.stop i H ∧ D.nx σ H) ∨ (J.go i H ∧ ∃ N : L2.St → Hp → Prop, (∀ σ' H', N σ' H' → ∃ m', m' < m ∧ W (i + 1) m' σ' H') ∧ ∀ x H', J.yld i H x H' → g x σ H' fun σ2 H2 => tb { D with nx := N, ct := N, bk := D.nx } σ2 H2) := by
  cases wk with
  | l => exact for_list Pv h0 hl hs hd
  | t => exact for_tup Pv h0 hl hs hd
end
/-- no test -/
theorem yes {σ : L2.St} {H : Hp} {A B : Hp → Prop} (h : A H) : tYes σ H (fun b H3 => if b = true then A H3 else B H3) := by
  show if true = true then A H else B H
  rw [if_pos rfl]
  exact h
/-- a list of data at its place: list or tuple -/
theorem DxAll.get {H : Hp} : ∀ {vs : List V} {ds : List PyData}, DxAll H vs ds → ∀ {i : Nat} {v : V}, vs[i]? = some v → ∃ d, ds[i]? = some d ∧ Dx H v d
  | _, _, .nil, i, v, e => by simp at e
  | _, _, .cons h t, 0, v, e => by simp at e; subst e; exact ⟨_, rfl, h⟩
  | _, _, .cons h t, i + 1, v, e => DxAll.get t (by simpa using e)
theorem DxAll.len {H : Hp} : ∀ {vs : List V} {ds : List PyData}, DxAll H vs ds → vs.length = ds.length
  | _, _, .nil => rfl
  | _, _, .cons _ t => by simp [DxAll.len t]
theorem DxAll.snoc {H : Hp} : ∀ {vs : List V} {ds : List PyData} {v : V} {d : PyData}, DxAll H vs ds → Dx H v d → DxAll H (vs ++ [v]) (ds ++ [d])
  | _, _, _, _, .nil, h => .cons h .nil
  | _, _, _, _, .cons a b, h => .cons a (DxAll.snoc b h)
theorem DxAll.app {H : Hp} : ∀ {vs ws : List V} {ds es : List PyData}, DxAll H vs ds → DxAll H ws es → DxAll H (vs ++ ws) (ds ++ es)
  | _, _, _, _, .nil, h => h
  | _, _, _, _, .cons a b, h => .cons a (DxAll.app b h)
theorem DxAll.take {H : Hp} : ∀ {vs : List V} {ds : List PyData} (n : Nat), DxAll H vs ds → DxAll H (vs.take n) (ds.take n)
  | _, _, 0, _ => .nil
  | _, _, _ + 1, .nil => .nil
  | _, _, n + 1, .cons a b => .cons a (DxAll.take n b)
theorem DxAll.drop {H : Hp} : ∀ {vs : List V} {ds : List PyData} (n : Nat), DxAll H vs ds → DxAll H (vs.drop n) (ds.drop n)
  | _, _, 0, h => h
  | _, _, _ + 1, .nil => .nil
  | _, _, n + 1, .cons _ b => DxAll.drop n b
end L2.Wb
/-! K01b -/
set_option Elab.async false
set_option linter.all false
set_option maxRecDepth 100000
set_option maxHeartbeats 4000000
namespace L2.K01
open PySem PySem.Spec PyProof.Rows L2.Wb
/-! ### lists of data -/
/-- a list or a tuple of data at x -/
inductive Sq (H : Hp) (a : Addr) (xs : List V) : PyData → Prop
  | l {ds : List PyData} (h : H a = some (.lst xs)) (d : DxAll H xs ds) : Sq H a xs (.list ds)
  | t {ds : List PyData} (h : H a = some (.tup xs)) (d : DxAll H xs ds) : Sq H a xs (.tuple ds)
theorem Dx.sq {H : Hp} {x : V} {d : PyData} {ds : List PyData} (h : Dx H x d) (e : seqOf d = some ds) : ∃ a xs, x = .ref a ∧ DxAll H xs ds ∧ ((H a = some (.lst xs)) ∨ (H a = some (.tup xs))) := by
  cases h with
  | lst h1 h2 => cases e; exact ⟨_, _, rfl, h2, .inl h1⟩
  | tup h1 h2 => cases e; exact ⟨_, _, rfl, h2, .inr h1⟩
  | _ => cases e
theorem sq_walk {K : PySem.W.Frag} {H : Hp} {a : Addr} {xs : List V} (h : (H a = some (.lst xs)) ∨ (H a = some (.tup xs))) : ∃ J S, Wk K a xs J S ∧ S H := by
  rcases h with h | h
  · exact ⟨_, _, .l, SqL.of h⟩
  · exact ⟨_, _, .t, SqT.of h⟩
theorem sq_any {K : PySem.W.Frag} {H : Hp} {a : Addr} {xs : List V} (h : (H a = some (.lst xs)) ∨ (H a = some (.tup xs))) : SqL K H a xs ∨ SqT K H a xs := h.imp SqL.of SqT.of
theorem names_are {H : Hp} : ∀ {xs : List V} {ds : List PyData}, DxAll H xs ds → ds.all isNameD = true → xs = (ds.map strOf).map V.str
  | _, _, .nil, _ => rfl
  | _, _, .cons h t, e => by
    rw [List.all_cons, Bool.and_eq_true] at e
    cases h with
    | str x => simp [names_are t e.2, strOf]
    | _ => exact absurd e.1 Bool.false_ne_true
theorem all_take {ds : List PyData} {f : PyData → Bool} : (ds.map f).all id = ds.all f := by rw [List.all_map]; rfl
/-! ### promises -/
def spNames : Sp := fun vs H Q _ => ∃ (x : V) (d : PyData) (ds : List PyData), vs = [x] ∧ Dx H x d ∧ seqOf d = some ds ∧ ds.length ≤ 100 ∧ (∀ e ∈ ds, ShortD e) ∧ ∀ H', Same H H' → Q (.bl (namesD ds)) H'
def spThings : Sp := fun vs H Q _ => ∃ (x : V) (d : PyData), vs = [x] ∧ Dx H x d ∧ (∀ ds, seqOf d = some ds → ∀ e ∈ ds, ShortD e) ∧ ∀ H', Same H H' → Q (.bl (thingsD d)) H'
def spBeam : Sp := fun vs H Q _ => ∃ (x : V) (d : PyData), vs = [x] ∧ Dx H x d ∧ ∀ H', Same H H' → Q (.bl (beamD d)) H'
structure TxtB (K : PySem.W.Frag) (mg : Str → Option Value) (fNum fLst fName fNames fBeam : Addr) : Prop where
  t : Txt K mg
  gNum : mg "is_number" = some (.ref fNum)
  kNum : PySem.W.keepIn K (.ref fNum) = true
  gLst : mg "is_list" = some (.ref fLst)
  kLst : PySem.W.keepIn K (.ref fLst) = true
  gName : mg "is_name" = some (.ref fName)
  kName : PySem.W.keepIn K (.ref fName) = true
  gNames : mg "_are_names" = some (.ref fNames)
  kNames : PySem.W.keepIn K (.ref fNames) = true
  gBeam : mg "_is_beam" = some (.ref fBeam)
  kBeam : PySem.W.keepIn K (.ref fBeam) = true
theorem small {n : Nat} (h : n ≤ 1000) : n ≤ sizeLine := Nat.le_trans h (by decide)
section
variable {P : Program} {w : World} {K : PySem.W.Frag} {mg : Str → Option Value} {base : Heap} {fNum fLst fName fNames fBeam : Addr} {dNum dLst dName dNames dBeam : FuncData}
theorem scNames : FnScope ["things", "thing"] ["things"] (defScope sNames) := ⟨rfl, rfl, rfl, by decide +kernel, rfl, by decide +kernel, by decide +kernel⟩
theorem ok_names {f : Addr} {fd : FuncData} (F : Fun K "_are_names" "_are_names" sNames f fd) (T : TxtB K mg fNum fLst fName fNames fBeam) (GN : FnOk P w K mg base CX0 1 fName dName ["thing"] spName) (bN : Binds K dName ["thing"] []) : FnOk P w K mg base CX0 2 f fd ["things"] spNames := by
  refine F.ok scNames (fun vs H Q E h => ?_) (fun cdv A outer s H vs Q E hr h => ?_)
  · obtain ⟨_, _, _, rfl, _⟩ := h; rfl
  · obtain ⟨x, d, ds, rfl, hd, hsq, hlen, hsh, k⟩ := h
    refine ⟨_, pss_one (ps_ret (pe_and (pe_callB (cr_all rfl) (by rfl) T.t.nall (by decide +kernel) (pa_cons
        (pe_lc (own := [("thing", 1)]) (g := gName 1) (tt := tYes) rfl scNames.nd (pi_seqV 0) (blkOk_by (own := [("thing", 1)]) (N := ["things", "thing"]) (sc := defScope sNames) (by decide +kernel))
          (fun _ _ _ _ _ => pg_name (i := 1) scNames.nd rfl (Or.inl rfl)) (fun _ _ _ _ _ => pts_nil) (fun _ _ _ _ _ => pe_call GN hr rfl T.gName T.kName bN .nil pass0 (pa_cons (pv 1) pa_nil))) pa_nil))
      (pe_one (pe_cmpR op_eq (pe_lenOnce rfl (by rfl) T.t.nlen (by rfl) T.t.nset (pv 0)) (pe_callB call_len_seq (by rfl) T.t.nlen PySem.boot_len (pa_cons (pv 0) pa_nil)) (nomark _))))), ?_⟩
    obtain ⟨a, xs, rfl, hx, ha⟩ := Dx.sq hd hsq
    obtain ⟨J, S, wk, hS⟩ := sq_walk (K := K) ha
    have hl := hx.len
    refine ⟨a, xs, J, S, rfl, wk, hS, fun D hD => lc_wk wk (fun i H' => Same H H' ∧ H' D = some (.lst (((ds.take i).map isNameD).map V.bl))) ⟨fun b o e => by rw [upd_ne (ne_of_none e hD)]; exact e, upd_same⟩ (fun i H' _ h' => wk.stay h'.1 hS) ?_ ?_⟩
    · rintro i y H' hi ⟨sm, hDl⟩
      obtain ⟨e, he, hy⟩ := hx.get hi
      have hi' : i < ds.length := (List.getElem?_eq_some_iff.mp he).1
      refine ⟨rfl, ?_⟩
      refine yes ?_
      refine ⟨_, rfl, y, e, rfl, hy.same sm, hsh e (List.mem_of_getElem? he), _, hDl, by rw [List.length_map, List.length_map, List.length_take]; exact Nat.lt_of_lt_of_le (show min i ds.length < 101 by omega) (by decide), fun b o z => ?_, ?_⟩
      · have hne : b ≠ D := ne_of_none z hD
        rw [upd_ne hne]; exact sm _ _ z
      · rw [upd_same, List.take_succ, he]
        simp
    · rintro H' ⟨sm, hDl⟩
      rw [hl, List.take_length] at hDl
      refine ⟨D, _, rfl, SqL.of hDl, _, rfl, ?_⟩
      rw [all_take]
      cases c : ds.all isNameD
      · refine iteF ?_
        have := k H' sm
        unfold namesD at this
        rw [c] at this
        exact this
      · have hxs := names_are hx c
        refine iteT ⟨_, rfl, a, ds.map strOf, rfl, ?_, by rw [List.length_map]; omega, _, rfl, a, xs, rfl, ?_, rfl, ?_⟩
        · rw [← hxs]; exact (sq_any ha).imp (fun q => sm.seq q) (fun q => sameT sm q)
        · exact (sq_any ha).imp (fun q => sm.seq q) (fun q => sameT sm q)
        · have e1 : decide (V.int ((PySem.WbS.once (ds.map strOf)).length : Nat) = V.int xs.length) = decide (ds.map strOf).Nodup := by
            rw [← PySem.WbS.once_nodup, dec_int, hl, List.length_map]
            by_cases q : (PySem.WbS.once (ds.map strOf)).length = ds.length
            · rw [q, decide_eq_true rfl, beq_self_eq_true]
            · rw [decide_eq_false q]; exact beq_eq_false_iff_ne.mpr (by omega)
          show Q (V.bl (decide (V.int ((PySem.WbS.once (ds.map strOf)).length : Nat) = V.int xs.length))) H'
          rw [e1]
          have := k H' sm
          unfold namesD at this
          rw [c, Bool.true_and] at this
          exact this
theorem scThings : FnScope ["things"] ["things"] (defScope sThings) := ⟨rfl, rfl, rfl, by decide +kernel, rfl, by decide +kernel, by decide +kernel⟩
theorem ok_things {f : Addr} {fd : FuncData} (F : Fun K "_are_things" "_are_things" sThings f fd) (T : TxtB K mg fNum fLst fName fNames fBeam) (GL : FnOk P w K mg base CX0 1 fLst dLst ["thing"] spLst) (bL : Binds K dLst ["thing"] []) (GN : FnOk P w K mg base CX0 2 fNames dNames ["things"] spNames) (bN : Binds K dNames ["things"] []) :
    FnOk P w K mg base CX0 3 f fd ["things"] spThings := by
  refine F.ok scThings (fun vs H Q E h => ?_) (fun cdv A outer s H vs Q E hr h => ?_)
  · obtain ⟨_, _, rfl, _⟩ := h; rfl
  · obtain ⟨x, d, rfl, hd, hsh, k⟩ := h
    refine ⟨_, pss_one (ps_ret (pe_and (pe_call GL (hr.mono (by decide)) rfl T.gLst T.kLst bL .nil pass0 (pa_cons (pv 0) pa_nil)) (pe_and (pe_chain op_le op_le pe_int (pe_callB call_len_seq (by rfl) T.t.nlen PySem.boot_len (pa_cons (pv 0) pa_nil)) pe_int)
      (pe_one (pe_call GN hr rfl T.gNames T.kNames bN .nil pass0 (pa_cons (pv 0) pa_nil)))))), ?_⟩
    refine ⟨_, rfl, x, d, rfl, hd, fun H1 s1 => ?_⟩
    cases e : seqOf d with
    | none =>
      refine ⟨_, rfl, iteF ?_⟩
      have := k H1 s1
      unfold thingsD at this
      rw [e] at this
      exact this
    | some ds =>
      obtain ⟨a, xs, rfl, hx, ha⟩ := Dx.sq hd e
      have hl := hx.len
      refine ⟨_, rfl, iteT ?_⟩
      refine ⟨_, rfl, a, xs, rfl, (sq_any ha).imp (fun q => s1.seq q) (fun q => sameT s1 q), _, _, rfl, rfl, _, rfl, ?_⟩
      have kk : ∀ H', Same H H' → Q (.bl (decide (1 ≤ ds.length) && decide (ds.length ≤ 8) && namesD ds)) H' := fun H' z => by
        have := k H' z
        unfold thingsD at this
        rw [e] at this
        exact this
      by_cases c1 : 1 ≤ ds.length
      · rw [decide_eq_true (show (1 : Int) ≤ (xs.length : Int) by omega)]
        refine iteT ⟨_, _, rfl, rfl, _, rfl, ?_⟩
        by_cases c2 : ds.length ≤ 8
        · rw [decide_eq_true (show (xs.length : Int) ≤ 8 by omega)]
          refine iteT ⟨_, rfl, _, d, ds, rfl, hd.same s1, e, by omega, hsh ds e, fun H2 s2 => ?_⟩
          have := kk H2 (s1.trans s2)
          rw [decide_eq_true c1, decide_eq_true c2] at this
          exact this
        · rw [decide_eq_false (show ¬ (xs.length : Int) ≤ 8 by omega)]
          refine iteF ?_
          have := kk H1 s1
          rw [decide_eq_false c2, Bool.and_false] at this
          exact this
      · rw [decide_eq_false (show ¬ (1 : Int) ≤ (xs.length : Int) by omega)]
        refine iteF ⟨_, rfl, iteF ?_⟩
        have := kk H1 s1
        rw [decide_eq_false c1] at this
        exact this
theorem scBeam : FnScope ["pair"] ["pair"] (defScope sBeam) := ⟨rfl, rfl, rfl, by decide +kernel, rfl, by decide +kernel, by decide +kernel⟩
theorem ok_beam {f : Addr} {fd : FuncData} (F : Fun K "_is_beam" "_is_beam" sBeam f fd) (T : TxtB K mg fNum fLst fName fNames fBeam) (GN : FnOk P w K mg base CX0 1 fNum dNum ["thing", "first", "last"] spNum) (bN : Binds K dNum ["thing", "first", "last"] []) : FnOk P w K mg base CX0 2 f fd ["pair"] spBeam := by
  refine F.ok scBeam (fun vs H Q E h => ?_) (fun cdv A outer s H vs Q E hr h => ?_)
  · obtain ⟨_, _, rfl, _⟩ := h; rfl
  · obtain ⟨x, d, rfl, hd, k⟩ := h
    refine ⟨_, pss_one (ps_ret (pe_and (pe_cmpR op_isTyB (pe_callTy call_type1 (by rfl) T.t.nty (by decide +kernel) (pa_cons (pv 0) pa_nil)) (pe_bltn (v := .ty "tuple") (by rfl) T.t.ntup (by decide +kernel) rfl) (nomark _))
      (pe_and (pe_cmpR op_eq (pe_callB call_len_seq (by rfl) T.t.nlen PySem.boot_len (pa_cons (pv 0) pa_nil)) pe_int (nomark _))
      (pe_and (pe_call GN hr rfl T.gNum T.kNum bN .nil pass0 (pa_cons (pe_ix ix_tup (pv 0) pe_int (fun _ _ => rfl)) (pa_cons (pe_un un_neg pe_int) (pa_cons pe_int pa_nil))))
      (pe_one (pe_cmpR op_ne (pe_ix ix_tup (pv 0) pe_int (fun _ _ => rfl)) pe_int (nomark _))))))), ?_⟩
    refine ⟨_, rfl, _, _, rfl, hd.tyB, _, _, rfl, rfl, _, rfl, ?_⟩
    have k0 := k H (Same.refl H)
    cases hd with
    | tup a b =>
      rename_i p xs ds
      have hl := b.len
      refine iteT ⟨_, rfl, p, xs, rfl, .inr (SqT.of a), rfl, _, rfl, ?_⟩
      match ds, xs, b with
      | [], _, .nil => exact iteF k0
      | [_], _, .cons _ .nil => exact iteF k0
      | _ :: _ :: _ :: r, _, .cons _ (.cons _ (.cons _ t)) =>
        rw [show decide (V.int _ = V.int 2) = false from by
          rw [dec_int]
          refine beq_eq_false_iff_ne.mpr ?_
          simp only [List.length_cons]
          omega]
        exact iteF k0
      | [d1, d2], _, .cons (v := v1) h1 (.cons (v := v2) h2 .nil) =>
        refine iteT ⟨_, rfl, p, _, _, _, rfl, rfl, SqT.of a, rfl, _, rfl, v2, d2, _, _, rfl, h2, _, rfl, ?_⟩
        have kk : Q (.bl (isNumD (-5) 5 d2 && !isNumD 0 0 d2)) H := k0
        cases c : isNumD (-5) 5 d2
        · rw [c] at kk; exact iteF kk
        · rw [c] at kk
          refine iteT ⟨_, rfl, p, _, _, _, rfl, rfl, SqT.of a, rfl, ?_⟩
          cases h2 with
          | int i =>
            refine ⟨rfl, ?_⟩
            rw [dec_int]
            have e : (i == 0) = isNumD 0 0 (.int i) := by
              unfold isNumD
              rw [Bool.eq_iff_iff]
              simp
              omega
            rw [e]
            exact kk
          | _ => exact absurd c Bool.false_ne_true
    | non => exact iteF k0
    | bl b => exact iteF k0
    | int y => exact iteF k0
    | str y => exact iteF k0
    | lst a b => exact iteF k0
    | dct a b => exact iteF k0
end
end L2.K01
/-! K01c -/
set_option Elab.async false
set_option linter.all false
set_option maxRecDepth 100000
set_option maxHeartbeats 4000000
namespace L2.K01
open PySem PySem.Spec PyProof.Rows L2.Wb
def spBeams : Sp := fun vs H Q _ => ∃ (x : V) (d : PyData), vs = [x] ∧ Dx H x d ∧ (∀ ds, seqOf d = some ds → ∀ e ∈ ds, ShortD (fstD e)) ∧ ∀ H', Same H H' → Q (.bl (beamsD d)) H'
def fewN (n : Nat) (lean : Int) : Bool := decide ((2 * lean + 1) ^ n ≤ 400)
def spFew : Sp := fun vs H Q _ => ∃ (x : V) (d : PyData) (ds : List PyData) (lean : Int), vs = [x, .int lean] ∧ Dx H x d ∧ seqOf d = some ds ∧ ds.length ≤ 3 ∧ 0 ≤ lean ∧ lean ≤ 9 ∧ ∀ H', Same H H' → Q (.bl (fewN ds.length lean)) H'
theorem Dx.pair {H : Hp} {x : V} {d : PyData} (h : Dx H x d) (hb : beamD d = true) : ∃ a v1 v2 d1 i, x = .ref a ∧ H a = some (.tup [v1, v2]) ∧ d = .tuple [d1, .int i] ∧ Dx H v1 d1 ∧ v2 = .int i ∧ -5 ≤ i ∧ i ≤ 5 ∧ i ≠ 0 := by
  cases h with
  | tup a b =>
    rename_i p xs ds
    match ds, xs, b, hb with
    | [], _, .nil, hb => exact absurd hb Bool.false_ne_true
    | [_], _, .cons _ .nil, hb => exact absurd hb Bool.false_ne_true
    | _ :: _ :: _ :: r, _, .cons _ (.cons _ (.cons _ t)), hb => exact absurd hb Bool.false_ne_true
    | [d1, d2], _, .cons (v := v1) h1 (.cons (v := v2) h2 .nil), hb =>
      have hb' : (isNumD (-5) 5 d2 && !isNumD 0 0 d2) = true := hb
      rw [Bool.and_eq_true] at hb'
      cases h2 with
      | int i =>
        refine ⟨_, _, _, d1, i, rfl, a, rfl, h1, rfl, ?_⟩
        simp [isNumD] at hb'
        omega
      | _ => exact absurd hb'.1 Bool.false_ne_true
  | _ => exact absurd hb Bool.false_ne_true
section
variable {P : Program} {w : World} {K : PySem.W.Frag} {mg : Str → Option Value} {base : Heap} {fNum fLst fName fNames fBeam : Addr} {dNum dLst dName dNames dBeam : FuncData}
theorem scBeams : FnScope ["beams", "pair"] ["beams"] (defScope sBeams) := ⟨rfl, rfl, rfl, by decide +kernel, rfl, by decide +kernel, by decide +kernel⟩
theorem ok_beams {f : Addr} {fd : FuncData} (F : Fun K "_are_beams" "_are_beams" sBeams f fd) (T : TxtB K mg fNum fLst fName fNames fBeam) (GL : FnOk P w K mg base CX0 1 fLst dLst ["thing"] spLst) (bL : Binds K dLst ["thing"] []) (GN : FnOk P w K mg base CX0 2 fNames dNames ["things"] spNames) (bN : Binds K dNames ["things"] [])
    (GB : FnOk P w K mg base CX0 2 fBeam dBeam ["pair"] spBeam) (bB : Binds K dBeam ["pair"] []) : FnOk P w K mg base CX0 3 f fd ["beams"] spBeams := by
  refine F.ok scBeams (fun vs H Q E h => ?_) (fun cdv A outer s H vs Q E hr h => ?_)
  · obtain ⟨_, _, rfl, _⟩ := h; rfl
  · obtain ⟨x, d, rfl, hd, hsh, k⟩ := h
    refine ⟨_, pss_cons (ps_if (PW.pt (pw_or (pt_not (pt_val (pe_call GL (hr.mono (by decide)) rfl T.gLst T.kLst bL .nil pass0 (pa_cons (pv 0) pa_nil)))) (pw_or1 (pt_not (pt_chain op_le op_le pe_int (pe_callB call_len_seq (by rfl) T.t.nlen PySem.boot_len (pa_cons (pv 0) pa_nil)) pe_int)))))
        (pss_one (ps_ret pe_bl)) pss_nil)
      (pss_one (ps_ret (pe_and (pe_callB (cr_all rfl) (by rfl) T.t.nall (by decide +kernel) (pa_cons
        (pe_lc (own := [("pair", 1)]) (g := gName 1) (tt := tYes) rfl scBeams.nd (pi_seqV 0) (blkOk_by (own := [("pair", 1)]) (N := ["beams", "pair"]) (sc := defScope sBeams) (by decide +kernel))
          (fun _ _ _ _ _ => pg_name (i := 1) scBeams.nd rfl (Or.inl rfl)) (fun _ _ _ _ _ => pts_nil) (fun _ _ _ _ _ => pe_call GB hr rfl T.gBeam T.kBeam bB .nil pass0 (pa_cons (pv 1) pa_nil))) pa_nil))
        (pe_one (pe_call GN hr rfl T.gNames T.kNames bN .nil pass0 (pa_cons
          (pe_lc (own := [("pair", 1)]) (g := gName 1) (tt := tYes) rfl scBeams.nd (pi_seqV 0) (blkOk_by (own := [("pair", 1)]) (N := ["beams", "pair"]) (sc := defScope sBeams) (by decide +kernel))
            (fun _ _ _ _ _ => pg_name (i := 1) scBeams.nd rfl (Or.inl rfl)) (fun _ _ _ _ _ => pts_nil) (fun _ _ _ _ _ => pe_ix (r := rIxT K) ix_tup (pv 1) pe_int (fun _ _ => rfl))) pa_nil)))))), ?_⟩
    refine ⟨_, rfl, x, d, rfl, hd, fun H1 s1 => ⟨_, rfl, ?_⟩⟩
    cases e_ : seqOf d with
    | none =>
      refine iteT ?_
      have := k H1 s1
      unfold beamsD at this
      rw [e_] at this
      exact this
    | some ds =>
      obtain ⟨a, xs, rfl, hx, ha⟩ := Dx.sq hd e_
      have hl := hx.len
      have kk : ∀ H', Same H H' → Q (.bl (decide (1 ≤ ds.length) && decide (ds.length ≤ 3) && (ds.all beamD && namesD (ds.map fstD)))) H' := fun H' z => by
        have := k H' z
        unfold beamsD at this
        rw [e_] at this
        exact this
      refine iteF ?_
      refine ⟨_, rfl, a, xs, rfl, (sq_any ha).imp (fun q => s1.seq q) (fun q => sameT s1 q), _, _, rfl, rfl, _, rfl, ?_⟩
      by_cases c1 : 1 ≤ ds.length
      · rw [decide_eq_true (show (1 : Int) ≤ (xs.length : Int) by omega)]
        refine iteT ⟨_, _, rfl, rfl, _, rfl, ?_⟩
        by_cases c2 : ds.length ≤ 3
        · rw [decide_eq_true (show (xs.length : Int) ≤ 3 by omega)]
          refine iteF ?_
          rw [decide_eq_true c1, decide_eq_true c2] at kk
          obtain ⟨J, S, wk, hS⟩ := sq_walk (K := K) ha
          have hS1 := wk.stay s1 hS
          refine ⟨a, xs, J, S, rfl, wk, hS1, fun D hD => lc_wk wk (fun i H' => Same H1 H' ∧ H' D = some (.lst (((ds.take i).map beamD).map V.bl))) ⟨fun b o e => by rw [upd_ne (ne_of_none e hD)]; exact e, upd_same⟩ (fun i H' _ h' => wk.stay h'.1 hS1) ?_ ?_⟩
          · rintro i y H' hi ⟨sm, hDl⟩
            obtain ⟨e, he, hy⟩ := hx.get hi
            refine ⟨rfl, ?_⟩
            refine yes ?_
            refine ⟨_, rfl, y, e, rfl, (hy.same s1).same sm, fun H2 s2 => ⟨_, s2 _ _ hDl, by rw [List.length_map, List.length_map, List.length_take]; exact Nat.lt_of_lt_of_le (show min i ds.length < 101 by omega) (by decide), fun b o z => ?_, ?_⟩⟩
            · rw [upd_ne (ne_of_none z hD)]; exact s2 _ _ (sm _ _ z)
            · rw [upd_same, List.take_succ, he]
              simp
          · rintro H2 ⟨s2, hDl⟩
            rw [hl, List.take_length] at hDl
            refine ⟨D, _, rfl, SqL.of hDl, _, rfl, ?_⟩
            rw [all_take]
            cases c : ds.all beamD
            · refine iteF ?_
              have := kk H2 (s1.trans s2)
              rw [c] at this
              exact this
            · refine iteT ?_
              have s12 := s1.trans s2
              have hS2 := wk.stay s12 hS
              have pr : ∀ e ∈ ds, beamD e = true := List.all_eq_true.mp c
              refine ⟨a, xs, J, S, rfl, wk, hS2, fun D2 hD2 => lc_wk wk (fun i H' => Same H2 H' ∧ ∃ vs, H' D2 = some (.lst vs) ∧ DxAll H2 vs ((ds.take i).map fstD)) ⟨fun b o e => by rw [upd_ne (ne_of_none e hD2)]; exact e, [], upd_same, .nil⟩ (fun i H' _ h' => wk.stay h'.1 hS2) ?_ ?_⟩
              · rintro i y H' hi ⟨sm, vs, hv, hvd⟩
                obtain ⟨e, he, hy⟩ := hx.get hi
                obtain ⟨p, v1, v2, d1, st, rfl, hp, rfl, h1, rfl, _⟩ := Dx.pair (hy.same s12) (pr e (List.mem_of_getElem? he))
                refine ⟨rfl, ?_⟩
                refine yes ?_
                have hvl := hvd.len
                refine ⟨_, rfl, p, _, _, _, rfl, rfl, SqT.of (sm _ _ hp), rfl, _, hv, ?_, fun b o z => ?_, _, upd_same, ?_⟩
                · rw [hvl, List.length_map, List.length_take]; exact Nat.lt_of_lt_of_le (show min i ds.length < 101 by omega) (by decide)
                · rw [upd_ne (ne_of_none z hD2)]; exact sm _ _ z
                · rw [List.take_succ, he]
                  simp only [Option.toList_some, List.map_append, List.map_cons, List.map_nil]
                  exact hvd.snoc h1
              · rintro H3 ⟨s3, vs, hv, hvd⟩
                rw [hl, List.take_length] at hvd
                refine ⟨_, .list (ds.map fstD), _, rfl, .lst hv (hvd.same s3), rfl, by rw [List.length_map]; omega, fun e he => ?_, fun H4 s4 => ?_⟩
                · obtain ⟨z, hz, rfl⟩ := List.mem_map.mp he
                  exact hsh ds e_ z hz
                · have := kk H4 ((s12.trans s3).trans s4)
                  rw [c] at this
                  exact this
        · rw [decide_eq_false (show ¬ (xs.length : Int) ≤ 3 by omega)]
          refine iteT ?_
          have := kk H1 s1
          rw [decide_eq_false c2, Bool.and_false] at this
          exact this
      · rw [decide_eq_false (show ¬ (1 : Int) ≤ (xs.length : Int) by omega)]
        refine iteF ⟨_, rfl, ?_⟩
        refine iteT ?_
        have := kk H1 s1
        rw [decide_eq_false c1] at this
        exact this
end
end L2.K01
/-! K01d -/
set_option Elab.async false
set_option linter.all false
set_option maxRecDepth 100000
set_option maxHeartbeats 4000000
namespace L2.K01
open PySem PySem.Spec PyProof.Rows L2.Wb
/-- a *= b on ints -/
def ipM : TIp := fun x y H Q => ∃ i j, x = .int i ∧ y = .int j ∧ CMul i j ∧ Q (.int (i * j)) H
theorem ip_mul {X : Cx} : PIp X .Mult ipM := by
  intro pins s σ H x y v u Q I r1 r2 ⟨i, j, e1, e2, c, q⟩
  subst e1; subst e2
  obtain ⟨t, rfl⟩ := r1
  obtain ⟨t', rfl⟩ := r2
  exact imul_int ⟨.int _, H, I.tok _, ⟨_, rfl⟩, q⟩ c.ok
theorem pow_nn {b : Int} (h : 0 ≤ b) : ∀ n : Nat, 0 ≤ b ^ n
  | 0 => by simp
  | n + 1 => by rw [Int.pow_succ]; exact Int.mul_nonneg (pow_nn h n) h
section
variable {P : Program} {w : World} {K : PySem.W.Frag} {mg : Str → Option Value} {base : Heap}
theorem scFew : FnScope ["beams", "lean", "many", "_"] ["beams", "lean"] (defScope sFew) := ⟨rfl, rfl, rfl, by decide +kernel, rfl, by decide +kernel, by decide +kernel⟩
theorem ok_few {f : Addr} {fd : FuncData} (F : Fun K "_few_leans" "_few_leans" sFew f fd) : FnOk P w K mg base CX0 1 f fd ["beams", "lean"] spFew := by
  refine F.ok scFew (fun vs H Q E h => ?_) (fun cdv A outer s H vs Q E hr h => ?_)
  · obtain ⟨_, _, _, _, rfl, _⟩ := h; rfl
  · obtain ⟨x, d, ds, lean, rfl, hd, e_, hlen, h0, h9, k⟩ := h
    refine ⟨_, pss_cons (ps_set (i := 2) scFew.nd rfl (Or.inl rfl) pe_int) (pss_cons (ps_for PassesOwn.never rfl (pi_seqV 0) (pg_name (i := 3) scFew.nd rfl (Or.inl rfl)) (pss_one (ps_aug (i := 2) scFew.nd rfl (Or.inl rfl) (pe_op op_add (pe_op op_mul pe_int (pv 1)) pe_int) ip_mul)))
      (pss_one (ps_ret (pe_cmpR op_le (pv 2) pe_int (nomark _))))), ?_⟩
    obtain ⟨a, xs, rfl, hx, ha⟩ := Dx.sq hd e_
    have hl := hx.len
    obtain ⟨J, S, wk, hS⟩ := sq_walk (K := K) ha
    refine ⟨a, xs, J, S, rfl, wk, hS, for_wk wk (fun i σ H' => H' = H ∧ ∃ z, σ = [some (.ref a), some (.int lean), some (.int ((2 * lean + 1) ^ i)), z]) ⟨rfl, none, by rw [Int.pow_zero]; rfl⟩ (fun i σ H' _ h => by rw [h.1]; exact hS) ?_ ?_⟩
    · rintro i y σ H' hi ⟨rfl, z, rfl⟩
      refine ⟨_, rfl, _, rfl, _, _, rfl, rfl, .inl ⟨by decide, by decide⟩, _, _, rfl, rfl, _, _, rfl, rfl, .inr ⟨by omega, by omega⟩, rfl, some y, ?_⟩
      rw [Int.pow_succ]
      rfl
    · rintro σ H' ⟨rfl, z, rfl⟩
      refine ⟨_, rfl, _, _, rfl, rfl, ?_⟩
      have := k _ (Same.refl _)
      rw [← hl] at this
      exact this
end
end L2.K01
/-! WbCut -/
set_option Elab.async false
set_option linter.all false
set_option maxRecDepth 100000
set_option maxHeartbeats 4000000
/-! Data is kept wherever its lists, tuples and dicts are; a heap without some addresses. -/
namespace L2.Wb
open PySem PySem.Spec PyProof.Rows
/-- a list, a tuple or a dict -/
def isDat : HO → Prop
  | .lst _ => True
  | .tup _ => True
  | .dK _ => True
  | _ => False
def SameDat (H H' : Hp) : Prop := ∀ b o, isDat o → H b = some o → H' b = some o
mutual
theorem Dx.dat {H H' : Hp} (e : SameDat H H') : ∀ {v : V} {d : PyData}, Dx H v d → Dx H' v d
  | _, _, .non => .non
  | _, _, .bl b => .bl b
  | _, _, .int i => .int i
  | _, _, .str x => .str x
  | _, _, .lst h a => .lst (e _ _ trivial h) (DxAll.dat e a)
  | _, _, .tup h a => .tup (e _ _ trivial h) (DxAll.dat e a)
  | _, _, .dct h a => .dct (e _ _ trivial h) (DxKv.dat e a)
theorem DxAll.dat {H H' : Hp} (e : SameDat H H') : ∀ {v : List V} {d : List PyData}, DxAll H v d → DxAll H' v d
  | _, _, .nil => .nil
  | _, _, .cons a b => .cons (Dx.dat e a) (DxAll.dat e b)
theorem DxKv.dat {H H' : Hp} (e : SameDat H H') : ∀ {v : List (Key × V)} {d : List (PyData × PyData)}, DxKv H v d → DxKv H' v d
  | _, _, .nil => .nil
  | _, _, .int a b => .int (Dx.dat e a) (DxKv.dat e b)
  | _, _, .str a b => .str (Dx.dat e a) (DxKv.dat e b)
end
theorem Same.dat {H H' : Hp} (e : Same H H') : SameDat H H' := fun b o _ z => e b o z
/-- an instance written keeps data -/
theorem dat_ins {H : Hp} {p C dx : Addr} {fs : List (Str × V)} {o : HO} (h : H p = some (.ins C dx fs)) : SameDat H (upd H p o) := fun b u d z => by
  by_cases c : b = p
  · subst c
    rw [h] at z
    cases z
    exact d.elim
  · rw [upd_ne c]; exact z
/-- the heap without the addresses of N -/
noncomputable def cut (N : Addr → Prop) (H : Hp) : Hp := fun b => open Classical in if N b then none else H b
theorem cut_of {N : Addr → Prop} {H : Hp} {b : Addr} (h : ¬ N b) : cut N H b = H b := by unfold cut; rw [if_neg h]
theorem cut_in {N : Addr → Prop} {H : Hp} {b : Addr} {o : HO} (h : cut N H b = some o) : ¬ N b ∧ H b = some o := by
  unfold cut at h
  split at h
  · cases h
  · exact ⟨by assumption, h⟩
theorem cut_same {N : Addr → Prop} {H : Hp} : Same (cut N H) H := fun b o h => (cut_in h).2
theorem cut_none {N : Addr → Prop} {H : Hp} {b : Addr} (h : H b = none) : cut N H b = none := by
  cases e : cut N H b with
  | none => rfl
  | some o => rw [(cut_in e).2] at h; cases h
/-- what is not of N stays -/
def Kept (N : Addr → Prop) (H H' : Hp) : Prop := ∀ b o, ¬ N b → H b = some o → H' b = some o
theorem Kept.cut {N : Addr → Prop} {H H' : Hp} (k : Kept N H H') : Same (cut N H) (cut N H') := fun b o h => by
  obtain ⟨h1, h2⟩ := cut_in h
  rw [cut_of h1]
  exact k b o h1 h2
theorem Kept.refl (N : Addr → Prop) (H : Hp) : Kept N H H := fun _ _ _ h => h
theorem Kept.trans {N : Addr → Prop} {H H1 H2 : Hp} (a : Kept N H H1) (b : Kept N H1 H2) : Kept N H H2 := fun c o n h => b c o n (a c o n h)
theorem Same.kept {N : Addr → Prop} {H H' : Hp} (e : Same H H') : Kept N H H' := fun b o _ h => e b o h
theorem Same.new {H : Hp} {l : Addr} {o : HO} (h : H l = none) : Same H (upd H l o) := fun b u z => by rw [upd_ne (ne_of_none z h)]; exact z
theorem Kept.upd {N : Addr → Prop} {H : Hp} {a : Addr} {o : HO} (h : N a) : Kept N H (upd H a o) := fun b u n z => by
  rw [L2.upd_ne fun e => n (by rw [e]; exact h)]; exact z
end L2.Wb
/-! K01e -/
set_option Elab.async false
set_option linter.all false
set_option maxRecDepth 100000
set_option maxHeartbeats 4000000
namespace L2.K01
open PySem PySem.Spec PyProof.Rows L2.Wb
abbrev sInit : Stmt := inClass (top 16) 0
abbrev sThs : Stmt := inClass (top 16) 1
abbrev sBms : Stmt := inClass (top 16) 2
abbrev sMost : Stmt := inClass (top 16) 3
abbrev sLean : Stmt := inClass (top 16) 4
abbrev sStep : Stmt := inClass (top 16) 5
abbrev sEq : Stmt := inClass (top 16) 6
/-! ### a yard -/
def fewD (dB dL : PyData) : Bool := match seqOf dB, dL with
  | some ds, .int l => fewN ds.length l
  | _, _ => false
def yardD (dT dB dM dL : PyData) : Bool := thingsD dT && (beamsD dB && (isNumD 1 100 dM && (isNumD 0 9 dL && fewD dB dL)))
def yf (ta tb : Addr) (m l : Int) : List (Str × V) := putF "_lean" (.int l) (putF "_most" (.int m) (putF "_beams" (.ref tb) (putF "_things" (.ref ta) [])))
theorem yf_things (ta tb : Addr) (m l : Int) : (yf ta tb m l).lookup ("_things" : Str) = some (.ref ta) := by
  unfold yf
  rw [lookup_putF, if_neg (by decide +kernel), lookup_putF, if_neg (by decide +kernel), lookup_putF, if_neg (by decide +kernel), lookup_putF, if_pos rfl]
theorem yf_beams (ta tb : Addr) (m l : Int) : (yf ta tb m l).lookup ("_beams" : Str) = some (.ref tb) := by
  unfold yf
  rw [lookup_putF, if_neg (by decide +kernel), lookup_putF, if_neg (by decide +kernel), lookup_putF, if_pos rfl]
theorem yf_most (ta tb : Addr) (m l : Int) : (yf ta tb m l).lookup ("_most" : Str) = some (.int m) := by
  unfold yf
  rw [lookup_putF, if_neg (by decide +kernel), lookup_putF, if_pos rfl]
theorem yf_lean (ta tb : Addr) (m l : Int) : (yf ta tb m l).lookup ("_lean" : Str) = some (.int l) := by
  unfold yf
  rw [lookup_putF, if_pos rfl]
/-- a yard of these stands at p -/
def YardAt (CY : Addr) (H : Hp) (p : Addr) (ts bs : List PyData) (m l : Int) : Prop := ∃ dx ta tb, H p = some (.ins CY dx (yf ta tb m l)) ∧ Dx H (.ref ta) (.tuple ts) ∧ Dx H (.ref tb) (.tuple bs)
def intOf : PyData → Int
  | .int i => i
  | _ => 0
def ShortS (d : PyData) : Prop := ∀ ds, seqOf d = some ds → ∀ e ∈ ds, ShortD e
def ShortB (d : PyData) : Prop := ∀ ds, seqOf d = some ds → ∀ e ∈ ds, ShortD (fstD e)
def seqD (d : PyData) : List PyData := (seqOf d).getD []
def spInit (CY CN : Addr) : Sp := fun vs H Q E => ∃ (p dx : Addr) (vT vB vM vL : V) (dT dB dM dL : PyData), vs = [.ref p, vT, vB, vM, vL] ∧ H p = some (.ins CY dx []) ∧ Dx H vT dT ∧ Dx H vB dB ∧ Dx H vM dM ∧ Dx H vL dL ∧ ShortS dT ∧ ShortB dB ∧
  (yardD dT dB dM dL = true → ∀ H', (∀ b o, b ≠ p → H b = some o → H' b = some o) → YardAt CY H' p (seqD dT) (seqD dB) (intOf dM) (intOf dL) → Q .non H') ∧ (yardD dT dB dM dL = false → ∀ H', Same H H' → E (.ref CN) none H')
structure TxtY (K : PySem.W.Frag) (mg : Str → Option Value) (fTh fBs fNum fFew CY CN : Addr) : Prop where
  t : Txt K mg
  gTh : mg "_are_things" = some (.ref fTh)
  kTh : PySem.W.keepIn K (.ref fTh) = true
  gBs : mg "_are_beams" = some (.ref fBs)
  kBs : PySem.W.keepIn K (.ref fBs) = true
  gNum : mg "is_number" = some (.ref fNum)
  kNum : PySem.W.keepIn K (.ref fNum) = true
  gFew : mg "_few_leans" = some (.ref fFew)
  kFew : PySem.W.keepIn K (.ref fFew) = true
  gNY : mg "NoYard" = some (.ref CN)
  kNY : PySem.W.keepIn K (.ref CN) = true
  qNY : PySem.W.excIn K CN [.type "ValueError", .type "Exception", .type "BaseException", .type "object"] "ValueError.__new__" = true
  eNY : PySem.W.subIn K (.ref CN) (.type "BaseException") = some true
  tNY : PySem.W.typeIn K (.ref CN) = some (.type "type")
  clY : Cls K CY
  nT : NoAttr K CY "_things"
  nB : NoAttr K CY "_beams"
  nM : NoAttr K CY "_most"
  nL : NoAttr K CY "_lean"
section
variable {P : Program} {w : World} {K : PySem.W.Frag} {mg : Str → Option Value} {base : Heap} {fTh fBs fNum fFew CY CN : Addr} {dTh dBs dNum dFew : FuncData}
/-- tuple(x), list(x) of data -/
theorem putF_len (f : Str) (v : V) : ∀ fs : List (Str × V), (putF f v fs).length ≤ fs.length + 1
  | [] => Nat.le_refl _
  | (g, u) :: r => by
    show (if g = f then (g, v) :: r else (g, u) :: putF f v r).length ≤ _
    split
    · exact Nat.le_succ _
    · exact Nat.succ_le_succ (putF_len f v r)
theorem putF_lt {f : Str} {v : V} {fs : List (Str × V)} {n m : Nat} (h : fs.length ≤ n) (e : n + 1 ≤ m) : (putF f v fs).length ≤ m := Nat.le_trans (putF_len f v fs) (Nat.le_trans (Nat.succ_le_succ h) e)
def rTupD : List V → Hp → VK → Prop := fun xs H Q => ∃ (x : V) (d : PyData) (ds : List PyData), xs = [x] ∧ Dx H x d ∧ seqOf d = some ds ∧ ∀ t H', Same H H' → Dx H' (.ref t) (.tuple ds) → Q (.ref t) H'
theorem call_tupD {X : Cx} : CallR X (.type "tuple") rTupD := by
  intro pins s σ H xs us Q I r ⟨x, d, ds, ex, h, e, k⟩
  subst ex
  refine call_tuple_of pins s σ H _ us Q I r ?_
  cases h with
  | lst h1 h2 =>
    cases e
    exact ⟨_, _, rfl, .inl ⟨SqL.of h1, fun l hl => k l _ (Same.new hl) (.tup upd_same (h2.same (Same.new hl)))⟩⟩
  | tup h1 h2 =>
    cases e
    exact ⟨_, _, rfl, .inr ⟨SqT.of h1, k _ _ (Same.refl _) (.tup h1 h2)⟩⟩
  | _ => cases e
def rLstD : List V → Hp → VK → Prop := fun xs H Q => ∃ (x : V) (d : PyData) (ds : List PyData), xs = [x] ∧ Dx H x d ∧ seqOf d = some ds ∧ ∀ l vs, H l = none → DxAll H vs ds → Q (.ref l) (upd H l (.lst vs))
theorem call_lstD {X : Cx} : CallR X (.type "list") rLstD := by
  intro pins s σ H xs us Q I r ⟨x, d, ds, ex, h, e, k⟩
  subst ex
  refine call_list_of pins s σ H _ us Q I r ?_
  cases h with
  | lst h1 h2 => cases e; exact ⟨_, _, rfl, .inl (SqL.of h1), fun l hl => k l _ hl h2⟩
  | tup h1 h2 => cases e; exact ⟨_, _, rfl, .inr (SqT.of h1), fun l hl => k l _ hl h2⟩
  | _ => cases e
theorem beamsD_seq {d : PyData} (h : beamsD d = true) : ∃ ds, seqOf d = some ds ∧ 1 ≤ ds.length ∧ ds.length ≤ 3 ∧ ds.all beamD = true ∧ namesD (ds.map fstD) = true := by
  unfold beamsD at h
  cases e : seqOf d with
  | none => rw [e] at h; cases h
  | some ds =>
    rw [e] at h
    simp only [Bool.and_eq_true, decide_eq_true_eq] at h
    exact ⟨ds, rfl, h.1.1, h.1.2, h.2.1, h.2.2⟩
theorem thingsD_seq {d : PyData} (h : thingsD d = true) : ∃ ds, seqOf d = some ds ∧ 1 ≤ ds.length ∧ ds.length ≤ 8 ∧ namesD ds = true := by
  unfold thingsD at h
  cases e : seqOf d with
  | none => rw [e] at h; cases h
  | some ds =>
    rw [e] at h
    simp only [Bool.and_eq_true, decide_eq_true_eq] at h
    exact ⟨ds, rfl, h.1.1, h.1.2, h.2⟩
theorem isNumD_int {d : PyData} {lo hi : Int} (h : isNumD lo hi d = true) : ∃ i, d = .int i ∧ lo ≤ i ∧ i ≤ hi := by
  cases d with
  | int i =>
    unfold isNumD at h
    simp only [Bool.and_eq_true, decide_eq_true_eq] at h
    exact ⟨i, rfl, h.1, h.2⟩
  | _ => cases h
theorem _root_.L2.Wb.Dx.int_eq {H : Hp} {x : V} {i : Int} (h : Dx H x (.int i)) : x = .int i := by cases h; rfl
theorem scInit : FnScope ["self", "things", "beams", "most", "lean"] ["self", "things", "beams", "most", "lean"] (defScope sInit) := ⟨rfl, rfl, rfl, by decide +kernel, rfl, by decide +kernel, by decide +kernel⟩
theorem ok_init {f : Addr} {fd : FuncData} (F : Fun K "__init__" "Yard.__init__" sInit f fd) (T : TxtY K mg fTh fBs fNum fFew CY CN) (GT : FnOk P w K mg base CX0 3 fTh dTh ["things"] spThings) (bT : Binds K dTh ["things"] []) (GB : FnOk P w K mg base CX0 3 fBs dBs ["beams"] spBeams) (bB : Binds K dBs ["beams"] [])
    (GN : FnOk P w K mg base CX0 1 fNum dNum ["thing", "first", "last"] spNum) (bN : Binds K dNum ["thing", "first", "last"] []) (GF : FnOk P w K mg base CX0 1 fFew dFew ["beams", "lean"] spFew) (bF : Binds K dFew ["beams", "lean"] []) :
    FnOk P w K mg base (L2.CX P w) 4 f fd ["self", "things", "beams", "most", "lean"] (spInit CY CN) := by
  refine F.okX scInit (fun vs H Q E h => ?_) (fun cdv A outer s H vs Q E hr h => ?_)
  · obtain ⟨_, _, _, _, _, _, _, _, _, _, rfl, _⟩ := h; rfl
  · obtain ⟨p, dx, vT, vB, vM, vL, dT, dB, dM, dL, rfl, hp, hT, hB, hM, hL, sT, sB, kY, kN⟩ := h
    refine ⟨_, pss_cons (ps_if (pt_not (pt_val (pe_call GT hr rfl T.gTh T.kTh bT .nil pass0 (pa_cons (pv 1) pa_nil)))) (pss_one (ps_raise rfl (takes_of rfl rfl rfl rfl) (pmk_own PySem.F.excBase_ValueError T.qNY T.gNY T.kNY (raises_own T.eNY T.tNY) rfl))) pss_nil)
      (pss_cons (ps_if (pt_not (pt_val (pe_call GB hr rfl T.gBs T.kBs bB .nil pass0 (pa_cons (pv 2) pa_nil)))) (pss_one (ps_raise rfl (takes_of rfl rfl rfl rfl) (pmk_own PySem.F.excBase_ValueError T.qNY T.gNY T.kNY (raises_own T.eNY T.tNY) rfl))) pss_nil)
      (pss_cons (ps_if (pt_not (pt_val (pe_call GN (hr.mono (by decide)) rfl T.gNum T.kNum bN .nil pass0 (pa_cons (pv 3) (pa_cons pe_int (pa_cons pe_int pa_nil)))))) (pss_one (ps_raise rfl (takes_of rfl rfl rfl rfl) (pmk_own PySem.F.excBase_ValueError T.qNY T.gNY T.kNY (raises_own T.eNY T.tNY) rfl))) pss_nil)
      (pss_cons (ps_if (pt_not (pt_val (pe_call GN (hr.mono (by decide)) rfl T.gNum T.kNum bN .nil pass0 (pa_cons (pv 4) (pa_cons pe_int (pa_cons pe_int pa_nil)))))) (pss_one (ps_raise rfl (takes_of rfl rfl rfl rfl) (pmk_own PySem.F.excBase_ValueError T.qNY T.gNY T.kNY (raises_own T.eNY T.tNY) rfl))) pss_nil)
      (pss_cons (ps_if (pt_not (pt_val (pe_call GF (hr.mono (by decide)) rfl T.gFew T.kFew bF .nil pass0 (pa_cons (pv 2) (pa_cons (pv 4) pa_nil))))) (pss_one (ps_raise rfl (takes_of rfl rfl rfl rfl) (pmk_own PySem.F.excBase_ValueError T.qNY T.gNY T.kNY (raises_own T.eNY T.tNY) rfl))) pss_nil)
      (pss_cons (ps_fld (pv 0) (pe_callTy call_tupD (by rfl) T.t.ntup (by decide +kernel) (pa_cons (pv 1) pa_nil)) rfl)
      (pss_cons (ps_fld (pv 0) (pe_callTy call_tupD (by rfl) T.t.ntup (by decide +kernel) (pa_cons (pv 2) pa_nil)) rfl)
      (pss_cons (ps_fld (pv 0) (pv 3) rfl)
      (pss_one (ps_fld (pv 0) (pv 4) rfl))))))))), ?_⟩
    refine ⟨_, rfl, vT, dT, rfl, hT, sT, fun H1 s1 => ⟨_, rfl, ?_⟩⟩
    cases cT : thingsD dT
    · refine iteT ?_
      exact kN (by unfold yardD; rw [cT]; rfl) _ s1
    · refine iteF ?_
      refine ⟨_, rfl, vB, dB, rfl, hB.same s1, sB, fun H2 s2 => ⟨_, rfl, ?_⟩⟩
      have s12 := s1.trans s2
      cases cB : beamsD dB
      · refine iteT ?_
        exact kN (by unfold yardD; rw [cT, cB]; rfl) _ s12
      · refine iteF ?_
        refine ⟨_, rfl, vM, dM, _, _, rfl, hM.same s12, _, rfl, ?_⟩
        cases cM : isNumD 1 100 dM
        · refine iteT ?_
          exact kN (by unfold yardD; rw [cT, cB, cM]; rfl) _ s12
        · refine iteF ?_
          refine ⟨_, rfl, vL, dL, _, _, rfl, hL.same s12, _, rfl, ?_⟩
          cases cL : isNumD 0 9 dL
          · refine iteT ?_
            exact kN (by unfold yardD; rw [cT, cB, cM, cL]; rfl) _ s12
          · refine iteF ?_
            obtain ⟨bs, eB, b1, b3, _⟩ := beamsD_seq cB
            obtain ⟨ts, eT, _⟩ := thingsD_seq cT
            obtain ⟨l, rfl, l0, l9⟩ := isNumD_int cL
            obtain ⟨m, rfl, _⟩ := isNumD_int cM
            cases hL.int_eq
            cases hM.int_eq
            refine ⟨_, rfl, _, rfl, vB, dB, bs, l, rfl, hB.same s12, eB, b3, l0, l9, fun H3 s3 => ⟨_, rfl, ?_⟩⟩
            have s13 := s12.trans s3
            have ef : fewD dB (.int l) = fewN bs.length l := by unfold fewD; rw [eB]
            cases cF : fewN bs.length l
            · refine iteT ?_
              exact kN (by unfold yardD; rw [cT, cB, cM, cL, ef, cF]; rfl) _ s13
            · refine iteF ?_
              refine ⟨_, rfl, vT, dT, ts, rfl, hT.same s13, eT, fun ta H4 s4 hta => ?_⟩
              have s14 := s13.trans s4
              have hp4 := s14 _ _ hp
              refine ⟨_, rfl, p, CY, dx, [], rfl, hp4, T.clY, T.nT, (by show 0 < 1000; decide), ?_⟩
              have d4 := dat_ins (o := .ins CY dx (putF "_things" (.ref ta) [])) hp4
              refine ⟨_, rfl, vB, dB, bs, rfl, (hB.same s14).dat d4, eB, fun tb H5 s5 htb => ?_⟩
              have hp5 := s5 _ _ (show upd H4 p (.ins CY dx (putF "_things" (.ref ta) [])) p = some _ from upd_same)
              refine ⟨_, rfl, p, CY, dx, _, rfl, hp5, T.clY, T.nB, (by show 1 < 1000; decide), ?_⟩
              have l0 : ([] : List (Str × V)).length ≤ 0 := Nat.le_refl _
              have l1 : (putF "_things" (V.ref ta) []).length ≤ 1 := putF_lt l0 (by decide)
              have l2 : (putF "_beams" (V.ref tb) (putF "_things" (V.ref ta) [])).length ≤ 2 := putF_lt l1 (by decide)
              refine ⟨_, rfl, _, rfl, p, CY, dx, _, rfl, upd_same, T.clY, T.nM, Nat.lt_of_le_of_lt l2 (by decide), ?_⟩
              refine ⟨_, rfl, _, rfl, p, CY, dx, _, rfl, upd_same, T.clY, T.nL, Nat.lt_of_le_of_lt (putF_lt l2 (Nat.le_refl _)) (by decide), ?_⟩
              refine kY (by unfold yardD; rw [cT, cB, cM, cL, ef, cF]; rfl) _ (fun b o hb z => ?_) ⟨dx, ta, tb, upd_same, ?_, ?_⟩
              · rw [upd_ne hb, upd_ne hb, upd_ne hb]
                exact s5 _ _ (by rw [upd_ne hb]; exact s14 _ _ z)
              · rw [show seqD dT = ts from by unfold seqD; rw [eT]; rfl]
                exact ((((hta.dat d4).same s5).dat (dat_ins hp5)).dat (dat_ins upd_same)).dat (dat_ins upd_same)
              · rw [show seqD dB = bs from by unfold seqD; rw [eB]; rfl]
                exact ((htb.dat (dat_ins hp5)).dat (dat_ins upd_same)).dat (dat_ins upd_same)
end
end L2.K01
/-! WbStrDict -/
set_option Elab.async false
set_option linter.all false
set_option maxRecDepth 100000
set_option maxHeartbeats 4000000
/-! a text == anything that is data -/
namespace PySem.WbSD
open PySem PySem.SeqAt

open MeetsSeq MeetsSeq2 MeetsSeq3 SeqRoads2
theorem str_eq_dict (b : Str) (u : Tok) (l : Addr) (dd : Option Addr) (data : Data) (sl : Array (Option Value)) (es : Array DictEntry) (k : Nat) (hd : data = .dict es k) :
    Meets (Builtin.«str.__eq__» ⟨[.str b u, .ref l], []⟩) (fun _ R s => s.heap.get? l = some { cls := .type "dict", dict := dd, data := data, slots := sl } ∧ R (.ok (.ret .notImplemented)) s) :=
  .of_wp fun prog w A R s h => by subst hd; obtain ⟨hp, g, d, tk, os⟩ := s; obtain ⟨hl, h⟩ := h; wp_walk using PySem.SeqAt.AutoSeq1.wpAny_loadPart' hl, wpAny_load hl; exact ⟨_, rfl, h⟩
theorem dict_eq_str (b : Str) (u : Tok) (l : Addr) (dd : Option Addr) (data : Data) (sl : Array (Option Value)) (es : Array DictEntry) (k : Nat) (hd : data = .dict es k) :
    Meets (Builtin.«dict.__eq__» ⟨[.ref l, .str b u], []⟩) (fun _ R s => s.heap.get? l = some { cls := .type "dict", dict := dd, data := data, slots := sl } ∧ R (.ok (.ret .notImplemented)) s) :=
  .of_wp fun prog w A R s h => by subst hd; obtain ⟨hp, g, d, tk, os⟩ := s; obtain ⟨hl, h⟩ := h; have f1 := F.sub_str_dict; wp_walk using PySem.SeqAt.AutoSeq1.wpAny_loadPart' hl, wpAny_load hl; exact ⟨_, rfl, h⟩
theorem rc_str_dict {A : Around} {s : Shared} {l : Addr} {o : Obj} {es : Array DictEntry} {k : Nat} (b : Str) (u : Tok) (ho : s.heap.get? l = some o) (hc : o.cls = .type "dict") (hd : o.data = .dict es k) (hu : A.units < cLine) : RcAt A s (.str b u) (.ref l) false := fun prog w E Q h => by
  obtain ⟨cls, dd, data, sl⟩ := o
  simp only at hc hd
  subst hc
  exact rc_eq_decline_or (k := false) (typeIs_str s b u) ⟨_, ho, rfl⟩ (by decide) F.sub_dict_str F.slot_str_eq F.slot_dict_eq_refl
    (fun _ hq => call_meets F.slot_str_eq (typeIs_str s b u) F.entry_str_eq (F.args_str_eq_2 _ _) (str_eq_dict b u l dd data sl es k hd) ⟨ho, hq⟩)
    (fun _ hq => call_meets F.slot_dict_eq_refl ⟨_, ho, rfl⟩ F.entry_dict_eq (F.args_dict_eq_2 _ _) (dict_eq_str b u l dd data sl es k hd) ⟨ho, hq⟩)
    (fun _ hq => wpAny_of_eq (rfl : isSame (.str b u) (.ref l) = pure false) hq) (.inr hu) h
end PySem.WbSD
namespace L2.Wb
open PySem PySem.Spec PyProof.Rows
/-- n == d, n a text -/
def eqS (n : Str) : PyData → Bool
  | .str y => n == y
  | _ => false
def rEqS : R2 := fun x y H Q => ∃ (n : Str) (d : PyData), x = .str n ∧ Dx H y d ∧ Q (.bl (eqS n d)) H
theorem op_eqS {X : Cx} (hu : X.A.units + 64 < cLine) : OpR X (compareOp .Eq) rEqS := by
  intro pins s σ H x y v u Q I rx ry ⟨n, d, ex, hd, q⟩
  subst ex
  obtain ⟨t, rfl⟩ := rx
  have q' : EP X pins σ Q (.bool (eqS n d)) s := ⟨.bl _, H, I, rfl, q⟩
  have hu' : X.A.units < cLine := by omega
  have sc : ∀ (r : Bool) , PySem.SeqAt.RcAt X.A s (.str n t) u r → EP X pins σ Q (.bool r) s → wpAny (model X.prog X.w) X.A (compareOp .Eq (.str n t) u) (EP X pins σ Q) X.xe s := fun r h z => h _ _ _ _ z
  cases hd with
  | non => cases (show u = Value.none from ry); exact sc _ (PySem.SeqAt.RcAt.str_none n t) q'
  | bl b => cases (show u = Value.bool b from ry); exact sc _ (PySem.SeqAt.RcAt.str_bool n t b) q'
  | int i => obtain ⟨t', rfl⟩ := (show ∃ t', u = Value.int i t' from ry); exact sc _ (PySem.SeqAt.RcAt.str_int n t i t') q'
  | str y => obtain ⟨t', rfl⟩ := (show ∃ t', u = Value.str y t' from ry); exact PyProof.Rows.eq_str q'
  | lst h1 h2 =>
    cases (show u = Value.ref _ from ry)
    obtain ⟨its, rv, hl, _⟩ := I.list (SqL.of h1)
    exact sc _ (PySem.SeqAt.RcAt.str_list n t hl.isList hu') q'
  | tup h1 h2 =>
    cases (show u = Value.ref _ from ry)
    obtain ⟨its, rv, hl, _⟩ := I.tuple (SqT.of h1)
    exact sc _ (PySem.SeqAt.RcAt.str_tuple n t hl hu') q'
  | dct h1 h2 =>
    cases (show u = Value.ref _ from ry)
    obtain ⟨_, _, vs, kv, o, es, ep, ho, hx, hdd, _⟩ := I.hok _ _ h1
    exact sc _ (PySem.WbSD.rc_str_dict n t ho hx.1 hdd hu') q'
end L2.Wb
/-! K01f -/
set_option Elab.async false
set_option linter.all false
set_option maxRecDepth 100000
set_option maxHeartbeats 4000000
namespace L2.K01
open PySem PySem.Spec PyProof.Rows L2.Wb
/-- data that is seen as a yard's -/
structure YardV (ts bs : List PyData) (m l : Int) : Prop where
  ts : thingsD (.list ts) = true
  bs : beamsD (.list bs) = true
  m : isNumD 1 100 (.int m) = true
  l : isNumD 0 9 (.int l) = true
theorem beam_form {e : PyData} (h1 : beamD e = true) (h2 : isNameD (fstD e) = true) : ∃ n s, e = .tuple [.str n, .int s] ∧ isNameS n = true ∧ -5 ≤ s ∧ s ≤ 5 ∧ s ≠ 0 := by
  match e, h1, h2 with
  | .tuple [a, st], h1, h2 =>
    have h1' : (isNumD (-5) 5 st && !isNumD 0 0 st) = true := h1
    rw [Bool.and_eq_true] at h1'
    obtain ⟨s, rfl, a1, a2⟩ := isNumD_int h1'.1
    match a, h2 with
    | .str n, h2 =>
      refine ⟨n, s, rfl, h2, a1, a2, fun z => ?_⟩
      subst z
      exact absurd h1'.2 (by decide)
  | .tuple [], h1, _ => exact absurd h1 Bool.false_ne_true
  | .tuple [_], h1, _ => exact absurd h1 Bool.false_ne_true
  | .tuple (_ :: _ :: _ :: _), h1, _ => exact absurd h1 Bool.false_ne_true
  | .none, h1, _ => exact absurd h1 Bool.false_ne_true
  | .bool _, h1, _ => exact absurd h1 Bool.false_ne_true
  | .int _, h1, _ => exact absurd h1 Bool.false_ne_true
  | .str _, h1, _ => exact absurd h1 Bool.false_ne_true
  | .list _, h1, _ => exact absurd h1 Bool.false_ne_true
  | .dict _, h1, _ => exact absurd h1 Bool.false_ne_true
theorem YardV.beam {ts bs : List PyData} {m l : Int} (h : YardV ts bs m l) {e : PyData} (he : e ∈ bs) : ∃ n s, e = .tuple [.str n, .int s] ∧ isNameS n = true ∧ -5 ≤ s ∧ s ≤ 5 ∧ s ≠ 0 := by
  obtain ⟨ds, e1, _, _, h4, h5⟩ := beamsD_seq h.bs
  cases e1
  unfold namesD at h5
  rw [Bool.and_eq_true] at h5
  exact beam_form (List.all_eq_true.mp h4 e he) (List.all_eq_true.mp h5.1 _ (List.mem_map.mpr ⟨e, he, rfl⟩))
theorem YardV.thing {ts bs : List PyData} {m l : Int} (h : YardV ts bs m l) {e : PyData} (he : e ∈ ts) : ∃ n, e = .str n ∧ isNameS n = true := by
  obtain ⟨ds, e1, _, _, h4⟩ := thingsD_seq h.ts
  cases e1
  unfold namesD at h4
  rw [Bool.and_eq_true] at h4
  have z := List.all_eq_true.mp h4.1 e he
  match e, z with
  | .str n, z => exact ⟨n, rfl, z⟩
def spThs (CY : Addr) : Sp := fun vs H Q _ => ∃ (p : Addr) (ts bs : List PyData) (m l : Int), vs = [.ref p] ∧ YardAt CY H p ts bs m l ∧ ∀ a xs, H a = none → DxAll H xs ts → Q (.ref a) (upd H a (.lst xs))
def spBms (CY : Addr) : Sp := fun vs H Q _ => ∃ (p : Addr) (ts bs : List PyData) (m l : Int), vs = [.ref p] ∧ YardAt CY H p ts bs m l ∧ ∀ a xs, H a = none → DxAll H xs bs → Q (.ref a) (upd H a (.lst xs))
def spMost (CY : Addr) : Sp := fun vs H Q _ => ∃ (p : Addr) (ts bs : List PyData) (m l : Int), vs = [.ref p] ∧ YardAt CY H p ts bs m l ∧ Q (.int m) H
def spLean (CY : Addr) : Sp := fun vs H Q _ => ∃ (p : Addr) (ts bs : List PyData) (m l : Int), vs = [.ref p] ∧ YardAt CY H p ts bs m l ∧ Q (.int l) H
def stepOne (d : PyData) : PyData → Option Int
  | .tuple [.str n, .int s] => if eqS n d = true then some s else none
  | _ => none
def stepD (bs : List PyData) (d : PyData) : Option Int := bs.findSome? (stepOne d)
def spStep (CY CB : Addr) : Sp := fun vs H Q E => ∃ (p : Addr) (ts bs : List PyData) (m l : Int) (v : V) (d : PyData), vs = [.ref p, v] ∧ YardAt CY H p ts bs m l ∧ YardV ts bs m l ∧ Dx H v d ∧
  (∀ s, stepD bs d = some s → Q (.int s) H) ∧ (stepD bs d = none → ∀ dd, H dd = none → E (.ref CB) (some dd) (upd H dd (.xd [(("beam" : Str), v)])))
def eqY (ts bs : List PyData) (m l : Int) (ts2 bs2 : List PyData) (m2 l2 : Int) : Bool := PyData.eqv (.tuple ts) (.tuple ts2) && (PyData.eqv (.tuple bs) (.tuple bs2) && (m == m2 && l == l2))
def spEq (CY : Addr) : Sp := fun vs H Q _ => ∃ (p : Addr) (ts bs : List PyData) (m l : Int) (y : V), vs = [.ref p, y] ∧ YardAt CY H p ts bs m l ∧ YardV ts bs m l ∧
  ((∃ p2 ts2 bs2 m2 l2, y = .ref p2 ∧ YardAt CY H p2 ts2 bs2 m2 l2 ∧ YardV ts2 bs2 m2 l2 ∧ Q (.bl (eqY ts bs m l ts2 bs2 m2 l2)) H) ∨ (∃ x, y = .str x ∧ Q (.bl false) H) ∨ (∃ a xs, y = .ref a ∧ H a = some (.lst xs) ∧ Q (.bl false) H))
structure TxtM (K : PySem.W.Frag) (mg : Str → Option Value) (CY : Addr) : Prop where
  nlst : mg "list" = none
  nisi : mg "isinstance" = none
  gY : mg "Yard" = some (.ref CY)
  kY : PySem.W.keepIn K (.ref CY) = true
  clY : Cls K CY
  nT : NoAttr K CY "_things"
  nB : NoAttr K CY "_beams"
  nM : NoAttr K CY "_most"
  nL : NoAttr K CY "_lean"
  ca : PySem.W.findIn K (.ref CY) "__class__" = some (some (.builtin "object.__class__"))
  sg : PySem.W.specialIn K (.builtin "object.__class__") "__get__" = some (some (.builtin "getset_descriptor.__get__"))
  tk : PySem.W.takesIn K (.builtin "object.__class__") = some true
  mo : PySem.W.mroIn K CY (.type "object") = some true
  iS : PySem.W.kitOne K (.type "str") (.ref CY) = some false
  iL : PySem.W.kitOne K (.type "list") (.ref CY) = some false
  iY : PySem.W.kitOne K (.ref CY) (.ref CY) = some true
section
variable {P : Program} {w : World} {K : PySem.W.Frag} {mg : Str → Option Value} {base : Heap} {CY CB : Addr}
theorem scThs : FnScope ["self"] ["self"] (defScope sThs) := ⟨rfl, rfl, rfl, by decide +kernel, rfl, by decide +kernel, by decide +kernel⟩
theorem ok_ths {f : Addr} {fd : FuncData} (F : Fun K "things" "Yard.things" sThs f fd) (T : TxtM K mg CY) : FnOk P w K mg base CX0 1 f fd ["self"] (spThs CY) := by
  refine F.ok scThs (fun vs H Q E h => ?_) (fun cdv A outer s H vs Q E hr h => ?_)
  · obtain ⟨_, _, _, _, _, rfl, _⟩ := h; rfl
  · obtain ⟨p, ts, bs, m, l, rfl, ⟨dx, ta, tb, hp, hta, htb⟩, k⟩ := h
    refine ⟨_, pss_one (ps_ret (pe_callTy call_lstD (by rfl) T.nlst (by decide +kernel) (pa_cons (pe_fld (pv 0) rfl) pa_nil))), ?_⟩
    exact ⟨_, rfl, p, CY, dx, _, _, rfl, hp, T.clY, T.nT, yf_things _ _ _ _, _, _, ts, rfl, hta, rfl, fun a xs ha hx => k a xs ha hx⟩
theorem scBms : FnScope ["self"] ["self"] (defScope sBms) := ⟨rfl, rfl, rfl, by decide +kernel, rfl, by decide +kernel, by decide +kernel⟩
theorem ok_bms {f : Addr} {fd : FuncData} (F : Fun K "beams" "Yard.beams" sBms f fd) (T : TxtM K mg CY) : FnOk P w K mg base CX0 1 f fd ["self"] (spBms CY) := by
  refine F.ok scBms (fun vs H Q E h => ?_) (fun cdv A outer s H vs Q E hr h => ?_)
  · obtain ⟨_, _, _, _, _, rfl, _⟩ := h; rfl
  · obtain ⟨p, ts, bs, m, l, rfl, ⟨dx, ta, tb, hp, hta, htb⟩, k⟩ := h
    refine ⟨_, pss_one (ps_ret (pe_callTy call_lstD (by rfl) T.nlst (by decide +kernel) (pa_cons (pe_fld (pv 0) rfl) pa_nil))), ?_⟩
    exact ⟨_, rfl, p, CY, dx, _, _, rfl, hp, T.clY, T.nB, yf_beams _ _ _ _, _, _, bs, rfl, htb, rfl, fun a xs ha hx => k a xs ha hx⟩
theorem scMost : FnScope ["self"] ["self"] (defScope sMost) := ⟨rfl, rfl, rfl, by decide +kernel, rfl, by decide +kernel, by decide +kernel⟩
theorem ok_most {f : Addr} {fd : FuncData} (F : Fun K "most" "Yard.most" sMost f fd) (T : TxtM K mg CY) : FnOk P w K mg base CX0 1 f fd ["self"] (spMost CY) := by
  refine F.ok scMost (fun vs H Q E h => ?_) (fun cdv A outer s H vs Q E hr h => ?_)
  · obtain ⟨_, _, _, _, _, rfl, _⟩ := h; rfl
  · obtain ⟨p, ts, bs, m, l, rfl, ⟨dx, ta, tb, hp, hta, htb⟩, k⟩ := h
    refine ⟨_, pss_one (ps_ret (pe_fld (pv 0) rfl)), ?_⟩
    exact ⟨_, rfl, p, CY, dx, _, _, rfl, hp, T.clY, T.nM, yf_most _ _ _ _, k⟩
theorem scLean : FnScope ["self"] ["self"] (defScope sLean) := ⟨rfl, rfl, rfl, by decide +kernel, rfl, by decide +kernel, by decide +kernel⟩
theorem ok_lean {f : Addr} {fd : FuncData} (F : Fun K "lean" "Yard.lean" sLean f fd) (T : TxtM K mg CY) : FnOk P w K mg base CX0 1 f fd ["self"] (spLean CY) := by
  refine F.ok scLean (fun vs H Q E h => ?_) (fun cdv A outer s H vs Q E hr h => ?_)
  · obtain ⟨_, _, _, _, _, rfl, _⟩ := h; rfl
  · obtain ⟨p, ts, bs, m, l, rfl, ⟨dx, ta, tb, hp, hta, htb⟩, k⟩ := h
    refine ⟨_, pss_one (ps_ret (pe_fld (pv 0) rfl)), ?_⟩
    exact ⟨_, rfl, p, CY, dx, _, _, rfl, hp, T.clY, T.nL, yf_lean _ _ _ _, k⟩
theorem scStep : FnScope ["self", "beam", "name", "number"] ["self", "beam"] (defScope sStep) := ⟨rfl, rfl, rfl, by decide +kernel, rfl, by decide +kernel, by decide +kernel⟩
theorem ok_step {f fI cc cda : Addr} {fd : FuncData} {arg : Expr} {args : Arguments} {sc : Scope} (F : Fun K "step" "Yard.step" sStep f fd) (T : TxtM K mg CY) (S : PySem.WbX.Sup P K mg CB fI cc cda "NoBeam.__init__" "beam" arg args sc) (gB : mg "NoBeam" = some (.ref CB)) (hok : ∀ u, PySem.WbX.ArgOk P w arg u) (hform : PySem.WbX.ArgForm arg) :
    FnOk P w K mg base (L2.CX P w) 3 f fd ["self", "beam"] (spStep CY CB) := by
  refine F.okX scStep (fun vs H Q E h => ?_) (fun cdv A outer s H vs Q E hr h => ?_)
  · obtain ⟨_, _, _, _, _, _, _, rfl, _⟩ := h; rfl
  · obtain ⟨p, ts, bs, m, l, v, d, rfl, ⟨dx, ta, tb, hp, hta, htb⟩, hv, hd, kS, kN⟩ := h
    refine ⟨_, pss_cons (ps_for (passes_of rfl) rfl (pi_tup (pe_fld (pv 0) rfl)) (pg_tup rfl (pgs_cons (pg_name (i := 2) scStep.nd rfl (Or.inl rfl)) (pgs_cons (pg_name (i := 3) scStep.nd rfl (Or.inl rfl)) pgs_nil)))
        (pss_one (ps_if (pt_cmpR (op_eqS hr.units) (pv 2) (pv 1) (nomark _)) (pss_one (ps_ret (pv 3))) pss_nil)))
      (pss_one (ps_raiseSup (okv := fun _ => True) rfl (takes_of rfl rfl rfl rfl) gB S (fun _ u _ _ => hok u) hform hr (pa_cons (pv 1) pa_nil))), ?_⟩
    cases htb with
    | tup h1 h2 =>
      rename_i xs
      refine ⟨_, rfl, p, CY, dx, _, _, rfl, hp, T.clY, T.nB, yf_beams _ _ _ _, tb, rfl, ⟨xs, SqT.of h1⟩, for_tup (K := K) (a := tb) (xs := xs) (fun i σ H' => H' = H ∧ stepD (bs.take i) d = none ∧ ∃ y z, σ = [some (.ref p), some v, y, z]) ⟨rfl, rfl, none, none, rfl⟩ (fun i σ H' _ h => by rw [h.1]; exact SqT.of h1) ?_ ?_⟩
      · rintro i y σ H' hi ⟨rfl, hn, y0, z0, rfl⟩
        obtain ⟨e, he, hy⟩ := h2.get hi
        obtain ⟨n, st, rfl, _⟩ := hv.beam (List.mem_of_getElem? he)
        have more : stepD (bs.take (i + 1)) d = (if eqS n d = true then some st else none) := by
          unfold stepD at hn ⊢
          rw [List.take_succ, he, List.findSome?_append, hn]
          simp [List.findSome?, stepOne]
        have all : eqS n d = true → stepD bs d = some st := fun c => by
          have z := more
          rw [if_pos c] at z
          unfold stepD at z ⊢
          rw [← List.take_append_drop (i + 1) bs, List.findSome?_append, z]
          rfl
        cases hy with
        | tup g1 g2 =>
          match g2 with
          | .cons a1 (.cons a2 .nil) =>
            cases a1; cases a2
            refine ⟨_, _, rfl, SqT.of g1, rfl, _, _, rfl, _, _, rfl, rfl, ?_⟩
            refine ⟨_, rfl, _, rfl, n, d, rfl, hd, _, rfl, ?_⟩
            cases c : eqS n d
            · refine iteF ?_
              refine ⟨rfl, ?_, _, _, rfl⟩
              rw [more, c]
              rfl
            · refine iteT ?_
              exact ⟨_, rfl, kS st (all c)⟩
      · rintro σ H' ⟨rfl, hn, y0, z0, rfl⟩
        rw [h2.len, List.take_length] at hn
        exact ⟨_, rfl, _, rfl, trivial, fun dd hdd => kN hn dd hdd⟩
theorem namesS_short {x : Str} (h : isNameS x = true) : PyData.strOk x = true := by
  unfold isNameS at h
  simp only [Bool.and_eq_true] at h
  unfold PyData.strOk
  rw [← Array.all_toList]
  rw [List.all_eq_true] at h ⊢
  intro c hc
  have z := h.2 c hc
  unfold isLow at z
  simp at z ⊢
  omega
mutual
theorem Dx.dp {H : Hp} : ∀ {v : V} {d : PyData}, Dx H v d → d.canLay0 = true → Dp K H v d
  | _, _, .non, _ => .non
  | _, _, .bl b, _ => .bl b
  | _, _, .int i, _ => .int i
  | _, _, .str x, _ => .str x
  | _, _, .lst h a, e => .lst (SqL.of h) (DxAll.dp a e)
  | _, _, .tup h a, e => .tup (SqT.of h) (DxAll.dp a e)
  | _, _, .dct h a, e => absurd e Bool.false_ne_true
theorem DxAll.dp {H : Hp} : ∀ {vs : List V} {ds : List PyData}, DxAll H vs ds → PyData.canLayAll0 ds = true → DpAll K H vs ds
  | _, _, .nil, _ => .nil
  | _, _, .cons a b, e => .cons (Dx.dp a (Bool.and_eq_true_iff.mp e).1) (DxAll.dp b (Bool.and_eq_true_iff.mp e).2)
end
theorem canAll {ds : List PyData} (h : ∀ d ∈ ds, d.canLay0 = true) : PyData.canLayAll0 ds = true := by
  induction ds with
  | nil => rfl
  | cons a r ih =>
    show (a.canLay0 && PyData.canLayAll0 r) = true
    rw [h a List.mem_cons_self, ih fun d hd => h d (List.mem_cons_of_mem _ hd)]
    rfl
theorem depthAll_le {n : Nat} {ds : List PyData} (h : ∀ d ∈ ds, d.depth ≤ n) : PyData.depthAll ds ≤ n := by
  induction ds with
  | nil => exact Nat.zero_le _
  | cons a r ih =>
    show max a.depth (PyData.depthAll r) ≤ n
    exact Nat.max_le.mpr ⟨h a List.mem_cons_self, ih fun d hd => h d (List.mem_cons_of_mem _ hd)⟩
theorem shaped_tup {n : Nat} {ds : List PyData} (h1 : ∀ d ∈ ds, d.canLay0 = true) (h2 : ∀ d ∈ ds, d.depth ≤ n) (hn : n ≤ 60) : PySem.SeqAt.shaped (.tuple ds) = true := by
  unfold PySem.SeqAt.shaped
  rw [Bool.and_eq_true]
  refine ⟨canAll h1, decide_eq_true ?_⟩
  have := depthAll_le h2
  show PyData.depthAll ds + 1 ≤ 64
  omega
theorem YardV.cts {ts bs : List PyData} {m l : Int} (h : YardV ts bs m l) : PySem.SeqAt.shaped (.tuple ts) = true := by
  refine shaped_tup (n := 0) (fun d hd => ?_) (fun d hd => ?_) (by decide)
  · obtain ⟨n, rfl, hn⟩ := h.thing hd
    exact namesS_short hn
  · obtain ⟨n, rfl, hn⟩ := h.thing hd
    exact Nat.le_refl _
theorem YardV.cbs {ts bs : List PyData} {m l : Int} (h : YardV ts bs m l) : PySem.SeqAt.shaped (.tuple bs) = true := by
  refine shaped_tup (n := 1) (fun d hd => ?_) (fun d hd => ?_) (by decide)
  · obtain ⟨n, s, rfl, hn, _⟩ := h.beam hd
    show (PyData.strOk n && (true && true)) = true
    rw [namesS_short hn]
    rfl
  · obtain ⟨n, s, rfl, hn, _⟩ := h.beam hd
    exact Nat.le_refl _
theorem shaped_can {d : PyData} (h : PySem.SeqAt.shaped d = true) : d.canLay0 = true := PySem.SeqAt.canLay_of_shaped h
theorem scEq : FnScope ["self", "other"] ["self", "other"] (defScope sEq) := ⟨rfl, rfl, rfl, by decide +kernel, rfl, by decide +kernel, by decide +kernel⟩
theorem ok_eq {f : Addr} {fd : FuncData} (F : Fun K "__eq__" "Yard.__eq__" sEq f fd) (T : TxtM K mg CY) : FnOk P w K mg base CX0 1 f fd ["self", "other"] (spEq CY) := by
  refine F.ok scEq (fun vs H Q E h => ?_) (fun cdv A outer s H vs Q E hr h => ?_)
  · obtain ⟨_, _, _, _, _, _, rfl, _⟩ := h; rfl
  · obtain ⟨p, ts, bs, m, l, y, rfl, ⟨dx, ta, tb, hp, hta, htb⟩, hv, k⟩ := h
    refine ⟨_, pss_one (ps_ret (pe_and (pe_callB call_isi (by rfl) T.nisi (by decide +kernel) (pa_cons (pv 1) (pa_cons (pe_glob (v := .ref CY) (by rfl) T.gY rfl) pa_nil)))
      (pe_and (pe_cmpR (op_eqD hr.units) (pe_fld (pv 0) rfl) (pe_fld (pv 1) rfl) (nomark _))
      (pe_and (pe_cmpR (op_eqD hr.units) (pe_fld (pv 0) rfl) (pe_fld (pv 1) rfl) (nomark _))
      (pe_and (pe_cmpR op_eq (pe_fld (pv 0) rfl) (pe_fld (pv 1) rfl) (nomark _))
      (pe_one (pe_cmpR op_eq (pe_fld (pv 0) rfl) (pe_fld (pv 1) rfl) (nomark _)))))))), ?_⟩
    rcases k with ⟨p2, ts2, bs2, m2, l2, rfl, ⟨dx2, ta2, tb2, hp2, hta2, htb2⟩, hv2, k⟩ | ⟨x, rfl, k⟩ | ⟨a, xs, rfl, ha, k⟩
    · refine ⟨_, rfl, _, _, _, _, _, rfl, .own CY, .base (.ins hp2 T.clY T.ca T.sg T.tk T.mo), T.iY, _, rfl, ?_⟩
      unfold eqY at k
      refine iteT ⟨_, rfl, p, CY, dx, _, _, rfl, hp, T.clY, T.nT, yf_things _ _ _ _, _, rfl, p2, CY, dx2, _, _, rfl, hp2, T.clY, T.nT, yf_things _ _ _ _, _, _, (Dx.dp hta (shaped_can hv.cts)), (Dx.dp hta2 (shaped_can hv2.cts)), hv.cts, hv2.cts, _, rfl, ?_⟩
      cases c1 : PyData.eqv (.tuple ts) (.tuple ts2)
      · rw [c1] at k; exact iteF k
      rw [c1] at k
      refine iteT ⟨_, rfl, p, CY, dx, _, _, rfl, hp, T.clY, T.nB, yf_beams _ _ _ _, _, rfl, p2, CY, dx2, _, _, rfl, hp2, T.clY, T.nB, yf_beams _ _ _ _, _, _, (Dx.dp htb (shaped_can hv.cbs)), (Dx.dp htb2 (shaped_can hv2.cbs)), hv.cbs, hv2.cbs, _, rfl, ?_⟩
      cases c2 : PyData.eqv (.tuple bs) (.tuple bs2)
      · rw [c2] at k; exact iteF k
      rw [c2] at k
      refine iteT ⟨_, rfl, p, CY, dx, _, _, rfl, hp, T.clY, T.nM, yf_most _ _ _ _, _, rfl, p2, CY, dx2, _, _, rfl, hp2, T.clY, T.nM, yf_most _ _ _ _, rfl, _, rfl, ?_⟩
      rw [dec_int]
      cases c3 : m == m2
      · rw [c3] at k; exact iteF k
      rw [c3] at k
      refine iteT ⟨_, rfl, p, CY, dx, _, _, rfl, hp, T.clY, T.nL, yf_lean _ _ _ _, _, rfl, p2, CY, dx2, _, _, rfl, hp2, T.clY, T.nL, yf_lean _ _ _ _, rfl, ?_⟩
      rw [dec_int]
      exact k
    · refine ⟨_, rfl, _, _, _, _, _, rfl, .own CY, .base (.str x), T.iS, _, rfl, ?_⟩
      exact iteF k
    · refine ⟨_, rfl, _, _, _, _, _, rfl, .own CY, .base (.lst ha), T.iL, _, rfl, ?_⟩
      exact iteF k
end
end L2.K01
/-! K01g -/
set_option Elab.async false
set_option linter.all false
set_option maxRecDepth 100000
set_option maxHeartbeats 4000000
namespace L2.K01
open PySem PySem.Spec PyProof.Rows L2.Wb
abbrev sBegun : Stmt := top 18
abbrev sNext : Stmt := top 19
abbrev sPick : Stmt := top 20
/-! ### what is drawn from -/
def sk (d : Int) (gl cl : Addr) (t : Int) : List (Key × V) := [(.inr "digits", .int d), (.inr "great", .ref gl), (.inr "cells", .ref cl), (.inr "turn", .int t)]
/-- the state of the drawing at st, its lists at gl and cl; at most n draws by turns ahead -/
structure LS (st gl cl : Addr) (n : Nat) (H : Hp) : Prop where
  ex : ∃ (d : Int) (gs cs : List Int) (t : Int), H st = some (.dK (sk d gl cl t)) ∧ H gl = some (.lst (gs.map V.int)) ∧ H cl = some (.lst (cs.map V.int)) ∧ 0 ≤ d ∧ (∀ g ∈ gs, 0 ≤ g) ∧ gs.length ≤ 63 ∧ cs.length ≤ 63 ∧ 0 ≤ t ∧ t ≤ n
  ne : gl ≠ cl
def N3 (st gl cl : Addr) : Addr → Prop := fun b => b = st ∨ b = gl ∨ b = cl
theorem LS.mono {st gl cl : Addr} {n m : Nat} {H : Hp} (h : LS st gl cl n H) (e : n ≤ m) : LS st gl cl m H := by
  obtain ⟨⟨d, gs, cs, t, h1, h2, h3, h4, h5, h6, h7, h8, h9⟩, ne⟩ := h
  exact ⟨⟨d, gs, cs, t, h1, h2, h3, h4, h5, h6, h7, h8, by omega⟩, ne⟩
theorem LS.same {st gl cl : Addr} {n : Nat} {H H' : Hp} (h : LS st gl cl n H) (e : Same H H') : LS st gl cl n H' := by
  obtain ⟨⟨d, gs, cs, t, h1, h2, h3, h⟩, ne⟩ := h
  exact ⟨⟨d, gs, cs, t, e _ _ h1, e _ _ h2, e _ _ h3, h⟩, ne⟩
theorem LS.has {st gl cl : Addr} {n : Nat} {H : Hp} (h : LS st gl cl n H) {b : Addr} (hb : N3 st gl cl b) : ∃ o, H b = some o := by
  obtain ⟨⟨d, gs, cs, t, h1, h2, h3, _⟩, _⟩ := h
  rcases hb with rfl | rfl | rfl
  · exact ⟨_, h1⟩
  · exact ⟨_, h2⟩
  · exact ⟨_, h3⟩
/-- a new object is none of the state's -/
theorem LS.new {st gl cl : Addr} {n : Nat} {H : Hp} (h : LS st gl cl n H) {b : Addr} (hb : H b = none) : ¬ N3 st gl cl b := fun z => by
  obtain ⟨o, e⟩ := h.has z
  rw [hb] at e; cases e
def bigI (i : Int) : Int := if i < 0 then -i else i
def E18 : Int := 1000000000000000000
def spBegun (K : PySem.W.Frag) : Sp := fun vs H Q _ => ∃ (a : Addr) (ns : List Int), vs = [.ref a] ∧ SqL K H a (ns.map V.int) ∧ ns.length ≤ 63 ∧ ∀ st gl cl H', Same H H' → H st = none → H gl = none → H cl = none → LS st gl cl 0 H' → Q (.ref st) H'
structure TxtL (K : PySem.W.Frag) (mg : Str → Option Value) : Prop where
  nabs : mg "abs" = none
  nlen : mg "len" = none
section
variable {P : Program} {w : World} {K : PySem.W.Frag} {mg : Str → Option Value} {base : Heap}
theorem scBegun : FnScope ["script", "great", "cell"] ["script"] (defScope sBegun) := ⟨rfl, rfl, rfl, by decide +kernel, rfl, by decide +kernel, by decide +kernel⟩
theorem ok_begun {f : Addr} {fd : FuncData} (F : Fun K "_law_begun" "_law_begun" sBegun f fd) (T : TxtL K mg) : FnOk P w K mg base CX0 1 f fd ["script"] (spBegun K) := by
  refine F.ok scBegun (fun vs H Q E h => ?_) (fun cdv A outer s H vs Q E hr h => ?_)
  · obtain ⟨_, _, rfl, _⟩ := h; rfl
  · obtain ⟨a, ns, rfl, hs, hl, k⟩ := h
    refine ⟨_, pss_cons (ps_setLc (i := 1) (own := [("cell", 2)]) (g := gName 2) rfl scBegun.nd rfl rfl (by rfl) (pi_list (pv 0)) (blkOk_by (own := [("cell", 2)]) (N := ["script", "great", "cell"]) (sc := defScope sBegun) (by decide +kernel))
        (fun _ _ _ _ _ => pg_name (i := 2) scBegun.nd rfl (Or.inl rfl)) (fun _ _ _ _ _ => pts_one (pt_cmpR op_ge (pe_callB call_abs (by rfl) T.nabs (by decide +kernel) (pa_cons (pv 2) pa_nil)) (pe_op op_pow pe_int pe_int) (nomark _)))
        (fun _ _ _ _ _ => pe_op op_fdivW (pe_callB call_abs (by rfl) T.nabs (by decide +kernel) (pa_cons (pv 2) pa_nil)) (pe_op op_pow pe_int pe_int)))
      (pss_one (ps_ret (pe_disp (pps_cons pe_str pe_int (pps_cons pe_str (pv 1) (pps_cons pe_str
        (pe_lc (own := [("cell", 2)]) (g := gName 2) (tt := tYes) rfl scBegun.nd (pi_list (pv 0)) (blkOk_by (own := [("cell", 2)]) (N := ["script", "great", "cell"]) (sc := defScope sBegun) (by decide +kernel))
        (fun _ _ _ _ _ => pg_name (i := 2) scBegun.nd rfl (Or.inl rfl)) (fun _ _ _ _ _ => pts_nil)
        (fun _ _ _ _ _ => pe_op op_mod (pe_callB call_abs (by rfl) T.nabs (by decide +kernel) (pa_cons (pv 2) pa_nil)) (pe_op op_pow pe_int pe_int)))
        (pps_cons pe_str pe_int pps_nil)))) (by rfl) (by rfl) (by decide) (by decide)))), ?_⟩
    have key : ∀ z ∈ ns.map V.int, ∃ i, z = V.int i := fun z hz => by obtain ⟨i, _, rfl⟩ := List.mem_map.mp hz; exact ⟨i, rfl⟩
    refine ⟨_, rfl, a, rfl, ⟨_, hs⟩, fun D hD => lc_list (K := K) (a := a) (xs := ns.map V.int) (fun i H' => Same H H' ∧ ∃ gs : List Int, H' D = some (.lst (gs.map V.int)) ∧ gs.length ≤ i ∧ ∀ g ∈ gs, 0 ≤ g) ⟨Same.new hD, [], upd_same, Nat.le_refl _, by simp⟩ (fun i H' _ h => h.1.seq hs) ?_ ?_⟩
    · rintro i y H' hi ⟨sm, gs, hgs, hgl, hg0⟩
      have hil : i < 63 := by have := (List.getElem?_eq_some_iff.mp hi).1; rw [List.length_map] at this; omega
      obtain ⟨c, rfl⟩ := key y (List.mem_of_getElem? hi)
      refine ⟨rfl, ?_⟩
      refine ⟨_, rfl, c, rfl, _, _, rfl, rfl, ⟨by decide, by decide, by decide⟩, _, _, rfl, rfl, _, rfl, ?_⟩
      have a0 : 0 ≤ (if c < 0 then -c else c) := by split <;> omega
      cases cc : decide (10 ^ Int.toNat 18 ≤ if c < 0 then -c else c)
      · refine iteF ?_
        exact ⟨sm, gs, hgs, by omega, hg0⟩
      · refine iteT ?_
        refine ⟨_, rfl, c, rfl, _, _, rfl, rfl, ⟨by decide, by decide, by decide⟩, _, _, rfl, rfl, ⟨by decide, by decide +kernel⟩, _, hgs, by rw [List.length_map]; exact Nat.lt_of_le_of_lt (show gs.length ≤ 63 by omega) (by decide), fun b o z => ?_, gs ++ [(if c < 0 then -c else c) / 10 ^ Int.toNat 18], ?_, ?_, ?_⟩
        · rw [upd_ne (ne_of_none z hD)]; exact sm _ _ z
        · rw [upd_same, List.map_append]; rfl
        · rw [List.length_append]; exact Nat.succ_le_succ hgl
        · intro g hg
          rcases List.mem_append.mp hg with q | q
          · exact hg0 g q
          · rw [List.mem_singleton.mp q]
            exact Int.ediv_nonneg a0 (by decide)
    · rintro H1 ⟨s1, gs, hgs, hgl, hg0⟩
      rw [List.length_map] at hgl
      intro st hst
      have s2 : Same H (upd H1 st (.dK [])) := s1.trans (Same.new hst)
      refine ⟨_, rfl, _, rfl, a, rfl, ⟨_, s2.seq hs⟩, fun cl hcl => lc_list (K := K) (a := a) (xs := ns.map V.int) (fun i H' => Same (upd H1 st (.dK [])) H' ∧ ∃ gs : List Int, H' cl = some (.lst (gs.map V.int)) ∧ gs.length ≤ i) ⟨Same.new hcl, [], upd_same, Nat.le_refl _⟩ (fun i H' _ h => (s2.trans h.1).seq hs) ?_ ?_⟩
      · rintro i y H' hi ⟨sm, cs, hcs, hcn⟩
        have hil : i < 63 := by have := (List.getElem?_eq_some_iff.mp hi).1; rw [List.length_map] at this; omega
        obtain ⟨c, rfl⟩ := key y (List.mem_of_getElem? hi)
        refine ⟨rfl, ?_⟩
        refine yes ?_
        refine ⟨_, rfl, c, rfl, _, _, rfl, rfl, ⟨by decide, by decide, by decide⟩, _, _, rfl, rfl, show (0 : Int) < 10 ^ Int.toNat 18 by decide, _, hcs, by rw [List.length_map]; exact Nat.lt_of_le_of_lt (show cs.length ≤ 63 by omega) (by decide), fun b o z => ?_, cs ++ [(if c < 0 then -c else c) % 10 ^ Int.toNat 18], ?_, ?_⟩
        · rw [upd_ne (ne_of_none z hcl)]; exact sm _ _ z
        · rw [upd_same, List.map_append]; rfl
        · rw [List.length_append]; exact Nat.succ_le_succ hcn
      · rintro H3 ⟨s3, cs, hcs, hcn⟩
        rw [List.length_map] at hcn
        have hst3 : H3 st = some (.dK []) := s3 _ _ upd_same
        have hD1 : D ≠ st := ne_of_none hgs hst
        have hD3 : H3 D = some (.lst (gs.map V.int)) := s3 _ _ (by rw [upd_ne hD1]; exact hgs)
        have hcD : D ≠ cl := ne_of_none (by rw [upd_ne hD1]; exact hgs) hcl
        have hcst : cl ≠ st := fun e => by rw [e, upd_same] at hcl; cases hcl
        refine ⟨hst3, [(.inr "digits", .int 0), (.inr "great", .ref D), (.inr "cells", .ref cl), (.inr "turn", .int 0)], rfl, show 4 ≤ 15 by decide, ?_⟩
        have hcl0 : H cl = none := s2.free hcl
        refine k st D cl _ (fun b o z => ?_) (s1.free hst) hD hcl0 ⟨⟨0, gs, cs, 0, ?_, ?_, ?_, Int.le_refl _, hg0, by omega, by omega, Int.le_refl _, Int.le_refl _⟩, hcD⟩
        · rw [upd_ne (ne_of_none z (s1.free hst))]
          exact (s2.trans s3) _ _ z
        · rw [upd_same]
          rfl
        · rw [upd_ne hD1]; exact hD3
        · rw [upd_ne hcst]; exact hcs
end
end L2.K01
/-! K01h -/
set_option Elab.async false
set_option linter.all false
set_option maxRecDepth 100000
set_option maxHeartbeats 4000000
namespace L2.K01
open PySem PySem.Spec PyProof.Rows L2.Wb
def spNext : Sp := fun vs H Q _ => ∃ (st gl cl : Addr) (n : Nat) (size : Int), vs = [.ref st, .int size] ∧ LS st gl cl n H ∧ n ≤ 1000000 ∧ 0 < size ∧ size ≤ 1000000 ∧
  ∀ r H', 0 ≤ r → r < size → LS st gl cl (n + 1) H' → Kept (N3 st gl cl) H H' → Q (.int r) H'
section
variable {P : Program} {w : World} {K : PySem.W.Frag} {mg : Str → Option Value} {base : Heap}
theorem ints_dp {K : PySem.W.Frag} {H : Hp} : ∀ gs : List Int, DpAll K H (gs.map V.int) (gs.map PyData.int)
  | [] => .nil
  | g :: r => .cons (.int g) (ints_dp r)
theorem ints_shaped (gs : List Int) : PySem.SeqAt.shaped (.list (gs.map PyData.int)) = true := by
  unfold PySem.SeqAt.shaped
  rw [Bool.and_eq_true]
  refine ⟨canAll fun d hd => ?_, decide_eq_true ?_⟩
  · obtain ⟨i, _, rfl⟩ := List.mem_map.mp hd; rfl
  · have : PyData.depthAll (gs.map PyData.int) ≤ 0 := depthAll_le fun d hd => by obtain ⟨i, _, rfl⟩ := List.mem_map.mp hd; exact Nat.le_refl _
    show PyData.depthAll _ + 1 ≤ 64
    omega
theorem eqv_nil (gs : List Int) : PyData.eqv (.list (gs.map PyData.int)) (.list []) = gs.isEmpty := by cases gs <;> rfl
theorem dg {H : Hp} {st : Addr} {kvs : List (Key × V)} {x : Str} {v : V} (h : H st = some (.dK kvs)) (e : valV kvs (.inr x) = some v) : DGet H st (.str x) (some v) := by
  rw [← e]
  exact DGet.k (k := .inr x) h
theorem v1 {d t : Int} {gl cl : Addr} : valV (sk d gl cl t) (.inr "digits") = some (.int d) := rfl
theorem v2 {d t : Int} {gl cl : Addr} : valV (sk d gl cl t) (.inr "great") = some (.ref gl) := rfl
theorem v3 {d t : Int} {gl cl : Addr} : valV (sk d gl cl t) (.inr "cells") = some (.ref cl) := rfl
theorem v4 {d t : Int} {gl cl : Addr} : valV (sk d gl cl t) (.inr "turn") = some (.int t) := rfl
theorem p1 {d t d' : Int} {gl cl : Addr} : putK (sk d gl cl t) (.inr "digits") (.int d') = sk d' gl cl t := rfl
theorem p4 {d t t' : Int} {gl cl : Addr} : putK (sk d gl cl t) (.inr "turn") (.int t') = sk d gl cl t' := rfl
theorem dp1 {H : Hp} {st gl cl : Addr} {d t d' : Int} (h : H st = some (.dK (sk d gl cl t))) : DPut H st (.str "digits") (.int d') (upd H st (.dK (sk d' gl cl t))) := by
  have := DPut.k (k := .inr "digits") (v := .int d') h (by decide +kernel : (4 : Nat) < sizeLine)
  rw [p1] at this
  exact this
theorem dp4 {H : Hp} {st gl cl : Addr} {d t t' : Int} (h : H st = some (.dK (sk d gl cl t))) : DPut H st (.str "turn") (.int t') (upd H st (.dK (sk d gl cl t'))) := by
  have := DPut.k (k := .inr "turn") (v := .int t') h (by decide +kernel : (4 : Nat) < sizeLine)
  rw [p4] at this
  exact this
theorem atI_at {α : Type} {xs : List α} {i : Int} (h0 : 0 ≤ i) (h1 : i < xs.length) : ∃ v, atI xs i = some v ∧ xs[i.toNat]? = some v := by
  have h : i.toNat < xs.length := by omega
  refine ⟨xs[i.toNat], ?_, List.getElem?_eq_getElem h⟩
  have := atI_nat (List.getElem?_eq_getElem h)
  rwa [Int.toNat_of_nonneg h0] at this
def rMd : R2 := rI (fun _ j => 0 < j) fun i j => .int (i % j)
def rPw : R2 := rI CPow fun i j => .int (i ^ j.toNat)
def rAd : R2 := rI0 fun i j => .int (i + j)
def rMl : R2 := rI CMul fun i j => .int (i * j)
def rFd : R2 := rI CDiv fun i j => .int (i / j)
def tTail : TS := tSeq (tAsg (tOp rMd (tOp rPw (tOp rAd (tOp rMd (tVar 4) (tC (.int 2147483629))) (tOp rMl (tC (.int 40009)) (tVar 3))) (tC (.int 3))) (tC (.int 2147483647))) (gName 5))
  (tRet (tOp rMd (tOp rFd (tOp rMd (tOp rPw (tOp rAd (tVar 5) (tOp rMl (tC (.int 104729)) (tVar 3))) (tC (.int 5))) (tC (.int 2147483629))) (tC (.int 11))) (tVar 1)))
theorem small_pow {x y : Int} (h0 : 0 ≤ x) (h1 : x < 3000000000) (h2 : 0 ≤ y) (h3 : y ≤ 1000000000000) (e : Int) (he : 0 ≤ e) (he2 : e ≤ 10) : CPow (x + y) e := ⟨he, by omega, by omega⟩
theorem tail_run {D : Ends} {H : Hp} {a f : Option V} {size t c : Int} (hs : 0 < size) (ht0 : 0 ≤ t) (ht : t ≤ 1000001) (k : ∀ r, 0 ≤ r → r < size → D.rt (.int r) H) : tTail D [a, some (.int size), f, some (.int t), some (.int c), none] H := by
  have m1 : 0 ≤ c % 2147483629 := Int.emod_nonneg _ (by decide)
  have m2 : c % 2147483629 < 2147483629 := Int.emod_lt_of_pos _ (by decide)
  generalize hm : c % 2147483629 = c1 at m1 m2
  refine ⟨_, rfl, _, _, rfl, rfl, show (0 : Int) < 2147483629 by decide, _, rfl, _, _, rfl, rfl, .inl ⟨by decide, by decide⟩, _, _, rfl, rfl, _, _, rfl, rfl, ?_, _, _, rfl, rfl, show (0 : Int) < 2147483647 by decide, ?_⟩
  · rw [hm]; exact small_pow m1 (by omega) (by omega) (by omega) 3 (by decide) (by decide)
  · have m3 : 0 ≤ (c % 2147483629 + 40009 * t) ^ Int.toNat 3 % 2147483647 := Int.emod_nonneg _ (by decide)
    have m4 : (c % 2147483629 + 40009 * t) ^ Int.toNat 3 % 2147483647 < 2147483647 := Int.emod_lt_of_pos _ (by decide)
    refine ⟨_, rfl, _, rfl, _, _, rfl, rfl, .inl ⟨by decide, by decide⟩, _, _, rfl, rfl, _, _, rfl, rfl, small_pow m3 (Int.lt_trans m4 (by decide)) (by omega) (by omega) 5 (by decide) (by decide), _, _, rfl, rfl, show (0 : Int) < 2147483629 by decide, _, _, rfl, rfl, ⟨by decide, by decide⟩, _, rfl, _, _, rfl, rfl, hs, ?_⟩
    exact k _ (Int.emod_nonneg _ (by omega)) (Int.emod_lt_of_pos _ hs)
theorem ne_test {K : PySem.W.Frag} {σ : L2.St} {H : Hp} {G : Bool → Hp → Prop} {st gl cl b : Addr} {d t : Int} {x : Str} {gs : List Int} (h0 : σ[0]? = some (some (.ref st))) (a1 : H st = some (.dK (sk d gl cl t))) (ev : valV (sk d gl cl t) (.inr x) = some (.ref b)) (a2 : H b = some (.lst (gs.map V.int))) (k : ∀ H2, Same H H2 → G (!gs.isEmpty) H2) :
    tTest (tOp (rNeD K) (tDGet (tVar 0) (tC (.str x))) (tLst tNil)) σ H G := by
  refine ⟨_, h0, st, _, rfl, dg a1 ev, (by decide +kernel : (0 : Nat) ≤ sizeLine), fun p hp => ⟨.list (gs.map PyData.int), .list [], ?_, ?_, ints_shaped gs, by decide, ?_⟩⟩
  · exact .lst (SqL.of (Same.new hp _ _ a2)) (ints_dp gs)
  · exact .lst (SqL.of upd_same) .nil
  · refine ⟨_, rfl, ?_⟩
    rw [eqv_nil]
    exact k _ (Same.new hp)
theorem loop_test {K : PySem.W.Frag} {σ : L2.St} {H : Hp} {G : Bool → Hp → Prop} {st gl cl : Addr} {d t : Int} {gs : List Int} (h0 : σ[0]? = some (some (.ref st))) (a1 : H st = some (.dK (sk d gl cl t))) (a2 : H gl = some (.lst (gs.map V.int))) (k : ∀ H2, Same H H2 → G (d == 0 && !gs.isEmpty) H2) :
    tAnd (tTest (tOp rEq (tDGet (tVar 0) (tC (.str "digits"))) (tC (.int 0)))) (tTest (tOp (rNeD K) (tDGet (tVar 0) (tC (.str "great"))) (tLst tNil))) σ H G := by
  refine ⟨_, h0, st, _, rfl, dg a1 v1, rfl, _, rfl, ?_⟩
  rw [dec_int]
  cases c0 : d == 0
  · refine iteF ?_
    have := k H (Same.refl _)
    rw [c0] at this
    exact this
  · refine iteT ?_
    refine ne_test h0 a1 v2 a2 fun H2 s => ?_
    have := k H2 s
    rw [c0] at this
    exact this
theorem scNext : FnScope ["state", "size", "found", "turn", "cell", "mixed"] ["state", "size"] (defScope sNext) := ⟨rfl, rfl, rfl, by decide +kernel, rfl, by decide +kernel, by decide +kernel⟩
theorem ok_next {f : Addr} {fd : FuncData} (F : Fun K "_law_next" "_law_next" sNext f fd) (T : TxtL K mg) : FnOk P w K mg base CX0 1 f fd ["state", "size"] spNext := by
  refine F.ok scNext (fun vs H Q E h => ?_) (fun cdv A outer s H vs Q E hr h => ?_)
  · obtain ⟨_, _, _, _, _, rfl, _⟩ := h; rfl
  · obtain ⟨st, gl, cl, n, size, rfl, hL, hn, hz, hz2, k⟩ := h
    have hu := hu_of hr
    have ns : ∀ {x : Str} {j pos}, NoSl (.Constant (.str x) j pos) := fun _ _ => rfl
    refine ⟨_, pss_cons (ps_while PassesOwn.never (PW.pt (pw_and (pt_cmpR op_eq (pe_dget hu (pv 0) pe_str ns) pe_int (nomark _)) (pw_and1 (pt_cmpR (op_neD hr.units) (pe_dget hu (pv 0) pe_str ns) (pe_lst pa_nil) (nomark _)))))
        (pss_one (ps_dput hu (pv 0) pe_str (pe_bm PySem.F.plainAttrs_list PySem.F.slot_list_pop PySem.F.type_list_pop mt_popAt (pe_dget hu (pv 0) pe_str ns) (pa_cons pe_int pa_nil)) rfl)))
      (pss_cons (ps_if (pt_cmpR op_gt (pe_dget hu (pv 0) pe_str ns) pe_int (nomark _))
        (pss_cons (ps_set (i := 2) scNext.nd rfl (Or.inl rfl) (pe_op op_mod (pe_dget hu (pv 0) pe_str ns) (pv 1)))
        (pss_cons (ps_dput hu (pv 0) pe_str (pe_op op_fdiv (pe_dget hu (pv 0) pe_str ns) (pv 1)) rfl)
        (pss_one (ps_ret (pv 2))))) pss_nil)
      (pss_cons (ps_daug hu (pv 0) pe_str pe_int in_add (fun _ _ _ => rfl))
      (pss_cons (ps_set (i := 3) scNext.nd rfl (Or.inl rfl) (pe_dget hu (pv 0) pe_str ns))
      (pss_cons (ps_set (i := 4) scNext.nd rfl (Or.inl rfl) pe_int)
      (pss_cons (ps_if (pt_cmpR (op_neD hr.units) (pe_dget hu (pv 0) pe_str ns) (pe_lst pa_nil) (nomark _))
        (pss_one (ps_set (i := 4) scNext.nd rfl (Or.inl rfl) (pe_ix ix_list (pe_dget hu (pv 0) pe_str ns) (pe_op op_mod (pv 3) (pe_callB call_len_seq (by rfl) T.nlen PySem.boot_len (pa_cons (pe_dget hu (pv 0) pe_str ns) pa_nil))) (fun _ _ => rfl)))) pss_nil)
      (pss_cons (ps_set (i := 5) scNext.nd rfl (Or.inl rfl) (pe_op op_mod (pe_op op_pow (pe_op op_add (pe_op op_mod (pv 4) pe_int) (pe_op op_mul pe_int (pv 3))) pe_int) pe_int))
      (pss_one (ps_ret (pe_op op_mod (pe_op op_fdiv (pe_op op_mod (pe_op op_pow (pe_op op_add (pv 5) (pe_op op_mul pe_int (pv 3))) pe_int) pe_int) pe_int) (pv 1)))))))))), ?_⟩
    obtain ⟨⟨d0, gs0, cs0, t0, h1, h2, h3, hd0, hg0, hgl, hcl, ht0, htn⟩, hne⟩ := hL
    have hsg : st ≠ gl := ne_of h1 h2 (by intro e; cases e)
    have hsc : st ≠ cl := ne_of h1 h3 (by intro e; cases e)
    refine ⟨fun m σ H' => σ = start ["state", "size", "found", "turn", "cell", "mixed"] [.ref st, .int size] ∧ Kept (N3 st gl cl) H H' ∧ ∃ (d : Int) (gs : List Int), gs.length = m ∧ H' st = some (.dK (sk d gl cl t0)) ∧ H' gl = some (.lst (gs.map V.int)) ∧ H' cl = some (.lst (cs0.map V.int)) ∧ 0 ≤ d ∧ (∀ g ∈ gs, 0 ≤ g) ∧ gs.length ≤ 63,
      ⟨gs0.length, rfl, Kept.refl _ _, d0, gs0, rfl, h1, h2, h3, hd0, hg0, hgl⟩, ?_⟩
    rintro m σ H1 ⟨rfl, kp, d, gs, rfl, a1, a2, a3, hd, hg, hl⟩
    refine loop_test rfl a1 a2 fun H2 s2 => ?_
    have b1 := s2 _ _ a1
    have b2 := s2 _ _ a2
    have b3 := s2 _ _ a3
    have kp2 : Kept (N3 st gl cl) H H2 := kp.trans (Same.kept s2)
    cases cg : d == 0 && !gs.isEmpty
    · refine iteF ?_
      refine ⟨_, rfl, st, _, rfl, dg b1 v1, _, _, rfl, rfl, _, rfl, ?_⟩
      by_cases cd : 0 < d
      · rw [decide_eq_true cd]
        refine iteT ?_
        have hq : 0 ≤ d / size := Int.ediv_nonneg hd (by omega)
        refine ⟨_, rfl, st, _, rfl, dg b1 v1, _, rfl, _, _, rfl, rfl, hz, ?_⟩
        refine ⟨_, rfl, st, _, rfl, dg b1 v1, _, rfl, _, _, rfl, rfl, ⟨hz, by omega⟩, _, rfl, st, _, rfl, dp1 b1, ?_⟩
        refine ⟨_, rfl, k _ _ (Int.emod_nonneg _ (by omega)) (Int.emod_lt_of_pos _ hz) ⟨⟨d / size, gs, cs0, t0, upd_same, ?_, ?_, hq, hg, hl, hcl, ht0, by omega⟩, hne⟩ (kp2.trans (Kept.upd (.inl rfl)))⟩
        · rw [upd_ne hsg.symm]; exact b2
        · rw [upd_ne hsc.symm]; exact b3
      · rw [decide_eq_false cd]
        refine iteF ?_
        refine ⟨_, rfl, st, _, rfl, dg b1 v4, _, _, rfl, rfl, _, dp4 b1, ?_⟩
        have u1 : upd H2 st (.dK (sk d gl cl (t0 + 1))) st = some (.dK (sk d gl cl (t0 + 1))) := upd_same
        have u3 : upd H2 st (.dK (sk d gl cl (t0 + 1))) cl = some (.lst (cs0.map V.int)) := by rw [upd_ne hsc.symm]; exact b3
        have u2 : upd H2 st (.dK (sk d gl cl (t0 + 1))) gl = some (.lst (gs.map V.int)) := by rw [upd_ne hsg.symm]; exact b2
        refine ⟨_, rfl, st, _, rfl, dg u1 v4, ?_⟩
        refine ne_test rfl u1 v3 u3 fun H3 s3 => ?_
        have done : ∀ r, 0 ≤ r → r < size → Q (.int r) H3 := fun r r0 r1 => k r H3 r0 r1 ⟨⟨d, gs, cs0, t0 + 1, s3 _ _ u1, s3 _ _ u2, s3 _ _ u3, hd, hg, hl, hcl, by omega, by omega⟩, hne⟩ ((kp2.trans (Kept.upd (.inl rfl))).trans (Same.kept s3))
        cases ce : !cs0.isEmpty
        · refine iteF ?_
          exact tail_run hz (by omega) (by omega) done
        · refine iteT ?_
          have cp : 0 < cs0.length := by cases cs0 with
            | nil => cases ce
            | cons => simp
          have hcp : (0 : Int) < (cs0.map V.int).length := by rw [List.length_map]; omega
          have r0 : 0 ≤ (t0 + 1) % ((cs0.map V.int).length : Int) := Int.emod_nonneg _ (by omega)
          have r1 : (t0 + 1) % ((cs0.map V.int).length : Int) < ((cs0.map V.int).length : Int) := Int.emod_lt_of_pos _ hcp
          obtain ⟨v, e1, e2⟩ := atI_at r0 r1
          obtain ⟨c, _, rfl⟩ := List.mem_map.mp (List.mem_of_getElem? e2)
          refine ⟨_, rfl, st, _, rfl, dg (s3 _ _ u1) v3, _, rfl, _, rfl, st, _, rfl, dg (s3 _ _ u1) v3, cl, _, rfl, .inl (SqL.of (s3 _ _ u3)), _, _, rfl, rfl, hcp, cl, _, _, .int c, rfl, rfl, SqL.of (s3 _ _ u3), e1, ?_⟩
          exact tail_run hz (by omega) (by omega) done
    · refine iteT ?_
      rw [Bool.and_eq_true] at cg
      match gs, cg, hg, hl, b2 with
      | [], cg, _, _, _ => exact absurd cg.2 (by decide)
      | g :: r, cg, hg, hl, b2 =>
        refine ⟨fun σ H' => σ = start ["state", "size", "found", "turn", "cell", "mixed"] [.ref st, .int size] ∧ Kept (N3 st gl cl) H H' ∧ ∃ (d : Int) (gs : List Int), gs.length = r.length ∧ H' st = some (.dK (sk d gl cl t0)) ∧ H' gl = some (.lst (gs.map V.int)) ∧ H' cl = some (.lst (cs0.map V.int)) ∧ 0 ≤ d ∧ (∀ g ∈ gs, 0 ≤ g) ∧ gs.length ≤ 63, fun σ' H' z => ⟨r.length, by simp, z⟩, ?_⟩
        refine ⟨_, rfl, st, _, rfl, dg b1 v2, .inl ⟨rfl, _, SqL.of b2⟩, gl, _, 0, 0, .int g, rfl, rfl, b2, by decide, by decide, ?_, rfl, ?_⟩
        · show (if (decide ((0 : Int) ≤ 0) && decide ((0 : Int) < (((g :: r).map V.int).length : Nat))) = true then some (Int.toNat 0) else none) = some 0
          rw [decide_eq_true (Int.le_refl 0), decide_eq_true (by simp)]
          rfl
        refine ⟨_, rfl, st, _, rfl, dp1 (by rw [upd_ne hsg]; exact b1), rfl, (kp2.trans (Kept.upd (.inr (.inl rfl)))).trans (Kept.upd (.inl rfl)), g, r, rfl, upd_same, ?_, ?_, hg g List.mem_cons_self, fun z hz => hg z (List.mem_cons_of_mem _ hz), by simp at hl; omega⟩
        · rw [upd_ne hsg.symm, upd_same]; rfl
        · rw [upd_ne hsc.symm, upd_ne hne.symm]; exact b3
/-- what is drawn of a list or a text -/
def spPick (K : PySem.W.Frag) : Sp := fun vs H Q _ => ∃ (st gl cl : Addr) (n : Nat) (y : V), vs = [.ref st, y] ∧ LS st gl cl n H ∧ n ≤ 1000000 ∧
  ((∃ (a : Addr) (xs : List V), y = .ref a ∧ SqL K H a xs ∧ (∀ o, H a = some o → ¬ N3 st gl cl a) ∧ xs ≠ [] ∧ xs.length ≤ 1000 ∧ ∀ (i : Nat) (v : V) (H' : Hp), xs[i]? = some v → LS st gl cl (n + 1) H' → Kept (N3 st gl cl) H H' → Q v H') ∨
   (∃ z : Str, y = .str z ∧ 0 < z.length ∧ z.length ≤ 1000 ∧ ∀ (i : Nat) (c : Nat) (H' : Hp), z.cps.toList[i]? = some c → LS st gl cl (n + 1) H' → Kept (N3 st gl cl) H H' → Q (.str ⟨#[c]⟩) H'))
theorem scPick : FnScope ["state", "some"] ["state", "some"] (defScope sPick) := ⟨rfl, rfl, rfl, by decide +kernel, rfl, by decide +kernel, by decide +kernel⟩
theorem SqL.kept {K : PySem.W.Frag} {H H' : Hp} {N : Addr → Prop} {a : Addr} {xs : List V} (h : SqL K H a xs) (n : ∀ o, H a = some o → ¬ N a) (k : Kept N H H') : SqL K H' a xs :=
  Or.imp (fun r => Or.imp (fun e => k _ _ (n _ e) e) (fun ⟨o, z⟩ => ⟨o, k _ _ (n _ z) z⟩) r) id h
theorem ok_pick {f fN : Addr} {fd dN : FuncData} (F : Fun K "_law_pick" "_law_pick" sPick f fd) (T : TxtL K mg) (GN : FnOk P w K mg base CX0 1 fN dN ["state", "size"] spNext) (gN : mg "_law_next" = some (.ref fN)) (kN : PySem.W.keepIn K (.ref fN) = true) (bN : Binds K dN ["state", "size"] []) :
    FnOk P w K mg base CX0 2 f fd ["state", "some"] (spPick K) := by
  refine F.ok scPick (fun vs H Q E h => ?_) (fun cdv A outer s H vs Q E hr h => ?_)
  · obtain ⟨_, _, _, _, _, rfl, _⟩ := h; rfl
  · obtain ⟨st, gl, cl, n, y, rfl, hL, hn, h⟩ := h
    rcases h with ⟨a, xs, rfl, hs, hN, hne, hl, k⟩ | ⟨z, rfl, z0, z1, k⟩
    · refine ⟨_, pss_one (ps_ret (pe_ix ix_list (pv 1) (pe_call GN hr rfl gN kN bN .nil pass0 (pa_cons (pv 0) (pa_cons (pe_callB call_len_seq (by rfl) T.nlen PySem.boot_len (pa_cons (pv 1) pa_nil)) pa_nil))) (fun _ _ => rfl))), ?_⟩
      have hp : 0 < xs.length := List.length_pos_iff.mpr hne
      refine ⟨_, rfl, _, rfl, _, rfl, a, xs, rfl, .inl hs, st, gl, cl, n, xs.length, rfl, hL, hn, by omega, by omega, fun r H' r0 r1 hL' kp => ?_⟩
      obtain ⟨v, e1, e2⟩ := atI_at (xs := xs) r0 r1
      exact ⟨a, xs, r, v, rfl, rfl, SqL.kept hs hN kp, e1, k _ v H' e2 hL' kp⟩
    · refine ⟨_, pss_one (ps_ret (pe_ix ix_str (pv 1) (pe_call GN hr rfl gN kN bN .nil pass0 (pa_cons (pv 0) (pa_cons (pe_callB call_len_str (by rfl) T.nlen PySem.boot_len (pa_cons (pv 1) pa_nil)) pa_nil))) (fun _ _ => rfl))), ?_⟩
      have hz : z.length = z.cps.toList.length := by simp [Str.length]
      refine ⟨_, rfl, _, rfl, _, rfl, z, rfl, Nat.le_trans z1 (by decide), st, gl, cl, n, z.length, rfl, hL, hn, by omega, by omega, fun r H' r0 r1 hL' kp => ?_⟩
      obtain ⟨v, e1, e2⟩ := atI_at (xs := z.cps.toList) r0 (by omega)
      exact ⟨z, r, v, rfl, rfl, Nat.le_trans z1 (by decide), e1, k _ v H' e2 hL' kp⟩
end
end L2.K01
/-! K01i -/
set_option Elab.async false
set_option linter.all false
set_option maxRecDepth 100000
set_option maxHeartbeats 4000000
namespace L2.K01
open PySem PySem.Spec PyProof.Rows L2.Wb
abbrev sLNames : Stmt := top 21
def spLNames : Sp := fun vs H Q _ => ∃ (st gl cl : Addr) (n : Nat) (many : Int), vs = [.ref st, .int many] ∧ LS st gl cl n H ∧ n ≤ 900000 ∧ 0 ≤ many ∧ many ≤ 100 ∧
  ∀ (l : Addr) (ns : List Str) (H' : Hp), H l = none → LS st gl cl (n + 20) H' → Kept (N3 st gl cl) H H' → H' l = some (.lst (ns.map V.str)) → ns.length = many.toNat → (∀ x ∈ ns, isNameS x = true) → Q (.ref l) H'
structure TxtN (K : PySem.W.Frag) (mg : Str → Option Value) (fN fP : Addr) : Prop where
  t : TxtL K mg
  nrange : mg "range" = none
  gN : mg "_law_next" = some (.ref fN)
  kN : PySem.W.keepIn K (.ref fN) = true
  gP : mg "_law_pick" = some (.ref fP)
  kP : PySem.W.keepIn K (.ref fP) = true
theorem LS.upd {st gl cl b : Addr} {n : Nat} {H : Hp} {o : HO} (h : LS st gl cl n H) (hb : ¬ N3 st gl cl b) : LS st gl cl n (upd H b o) := by
  obtain ⟨⟨d, gs, cs, t, h1, h2, h3, h⟩, ne⟩ := h
  exact ⟨⟨d, gs, cs, t, by rw [upd_ne fun e => hb (.inl e.symm)]; exact h1, by rw [upd_ne fun e => hb (.inr (.inl e.symm))]; exact h2, by rw [upd_ne fun e => hb (.inr (.inr e.symm))]; exact h3, h⟩, ne⟩
theorem keptNew {N : Addr → Prop} {H H' : Hp} {b : Addr} {o : HO} (k : Kept N H H') (hb : H b = none) : Kept N H (L2.upd H' b o) := fun c u nc e => by
  rw [upd_ne (ne_of_none e hb)]
  exact k c u nc e
/-- one letter -/
def ch (c : Nat) : Str := ⟨#[c]⟩
theorem join_ch (cs : List Nat) : Txt.join ("" : Str) (cs.map ch) = ⟨cs.toArray⟩ := by
  have h := SX.join_S [] (cs.map fun c => [c])
  have e1 : (cs.map fun c => [c]).map SX.S = cs.map ch := by rw [List.map_map]; rfl
  have e2 : ∀ l : List Nat, TL.joinL [] (l.map fun c => [c]) = l := by
    intro l
    induction l with
    | nil => rfl
    | cons a r ih =>
      cases r with
      | nil => rfl
      | cons b r =>
        show [a] ++ ([] ++ TL.joinL [] ((b :: r).map fun c => [c])) = a :: b :: r
        rw [ih]
        rfl
  rw [e1, e2] at h
  exact h
theorem name_of {cs : List Nat} (h1 : 1 ≤ cs.length) (h2 : cs.length ≤ 8) (h3 : ∀ c ∈ cs, isLow c = true) : isNameS ⟨cs.toArray⟩ = true := by
  unfold isNameS
  have e : (⟨cs.toArray⟩ : Str).length = cs.length := by simp [Str.length]
  rw [e, decide_eq_true h1, decide_eq_true h2]
  simp only [Bool.true_and]
  rw [List.all_eq_true]
  intro c hc
  exact h3 c (by simpa using hc)
def abc : Str := "abcdefghijklmnopqrstuvwxyz"
theorem abc_low : ∀ c ∈ abc.cps.toList, isLow c = true := by decide +kernel
theorem abc_len : abc.cps.toList.length = 26 := by decide +kernel
theorem ch_sum (cs : List Nat) : ((cs.map ch).map (·.length)).sum = cs.length := by
  induction cs with
  | nil => rfl
  | cons a r ih => simp only [List.map_cons, List.sum_cons, ih, List.length_cons]; show 1 + _ = _; omega
section
variable {P : Program} {w : World} {K : PySem.W.Frag} {mg : Str → Option Value} {base : Heap} {fN fP : Addr} {dN dP : FuncData}
theorem scLNames : FnScope ["state", "many", "letters", "base", "at", "shift", "step", "names", "k"] ["state", "many"] (defScope sLNames) := ⟨rfl, rfl, rfl, by decide +kernel, rfl, by decide +kernel, by decide +kernel⟩
theorem ok_lnames {f : Addr} {fd : FuncData} (F : Fun K "_law_names" "_law_names" sLNames f fd) (T : TxtN K mg fN fP) (GN : FnOk P w K mg base CX0 1 fN dN ["state", "size"] spNext) (bN : Binds K dN ["state", "size"] []) (GP : FnOk P w K mg base CX0 2 fP dP ["state", "some"] (spPick K)) (bP : Binds K dP ["state", "some"] []) :
    FnOk P w K mg base CX0 3 f fd ["state", "many"] spLNames := by
  refine F.ok scLNames (fun vs H Q E h => ?_) (fun cdv A outer s H vs Q E hr h => ?_)
  · obtain ⟨_, _, _, _, _, rfl, _⟩ := h; rfl
  · obtain ⟨st, gl, cl, n, many, rfl, hL, hn, hm0, hm1, k⟩ := h
    have hr1 : Room 1 _ := hr.mono (by decide)
    refine ⟨_, pss_cons (ps_set (i := 2) scLNames.nd rfl (Or.inr rfl) pe_str)
      (pss_cons (ps_setLc (i := 3) (own := [("k", 8)]) (g := gName 8) (tt := tYes) rfl scLNames.nd rfl rfl (by rfl) (pi_range1 (by rfl) T.nrange (pa_cons (pe_op op_add pe_int (pe_call GN hr1 rfl T.gN T.kN bN .nil pass0 (pa_cons (pv 0) (pa_cons pe_int pa_nil)))) pa_nil)) (blkOk_by (own := [("k", 8)]) (N := ["state", "many", "letters", "base", "at", "shift", "step", "names", "k"]) (sc := defScope sLNames) (by decide +kernel))
        (fun _ _ _ _ _ => pg_name (i := 8) scLNames.nd rfl (Or.inl rfl)) (fun _ _ _ _ _ => pts_nil) (fun _ _ _ _ _ => pe_call GP hr rfl T.gP T.kP bP .nil pass0 (pa_cons (pv 0) (pa_cons (pv 2) pa_nil))))
      (pss_cons (ps_set (i := 4) scLNames.nd rfl (Or.inl rfl) (pe_call GN hr1 rfl T.gN T.kN bN .nil pass0 (pa_cons (pv 0) (pa_cons (pe_callB call_len_seq (by rfl) T.t.nlen PySem.boot_len (pa_cons (pv 3) pa_nil)) pa_nil))))
      (pss_cons (ps_par (i := 5) (j := 6) rfl scLNames.nd rfl rfl (by decide) rfl rfl (pa_cons (pe_call GN hr1 rfl T.gN T.kN bN .nil pass0 (pa_cons (pv 0) (pa_cons pe_int pa_nil))) (pa_cons (pe_call GP hr rfl T.gP T.kP bP .nil pass0 (pa_cons (pv 0) (pa_cons (pe_lst (pa_cons pe_int (pa_cons pe_int (pa_cons pe_int (pa_cons pe_int (pa_cons pe_int (pa_cons pe_int pa_nil))))))) pa_nil))) pa_nil)) (by rfl))
      (pss_cons (ps_set (i := 7) scLNames.nd rfl (Or.inl rfl) (pe_lst pa_nil))
      (pss_cons (ps_for PassesOwn.never rfl (pi_range1 (by rfl) T.nrange (pa_cons (pv 1) pa_nil)) (pg_name (i := 8) scLNames.nd rfl (Or.inl rfl))
        (pss_cons (ps_asg (pe_ix ix_str (pv 2) (pe_op op_mod (pe_op op_add (pv 5) (pe_op op_mul (pv 6) (pv 8))) pe_int) (fun _ _ => rfl)) (pg_sub (pv 3) (pv 4) set_list (fun _ => rfl)))
        (pss_one (ps_expr (pe_bm PySem.F.plainAttrs_list PySem.F.slot_list_append PySem.F.type_list_append mt_append (pv 7) (pa_cons (pe_bm PySem.F.plainAttrs_str PySem.F.slot_str_join PySem.F.type_str_join mt_join pe_str (pa_cons (pv 3) pa_nil)) pa_nil))))))
      (pss_one (ps_ret (pv 7)))))))), ?_⟩
    refine ⟨_, rfl, st, gl, cl, n, 8, rfl, hL, by omega, by decide, by decide, fun r H1 r0 r8 L1 kp1 => ?_⟩
    refine ⟨_, _, rfl, rfl, 1 + r, rfl, by omega, by omega, fun B hB => lc_range (fun i H' => LS st gl cl (n + 1 + i) H' ∧ Kept (N3 st gl cl) H1 H' ∧ ∃ cs : List Nat, H' B = some (.lst ((cs.map ch).map V.str)) ∧ cs.length = i ∧ ∀ c ∈ cs, isLow c = true) ⟨L1.same (Same.new hB), (Same.kept (Same.new hB)), [], upd_same, rfl, by simp⟩ ?_ ?_⟩
    · rintro i H' hi ⟨L', kp', cs, hcs, hcl, hlow⟩
      have hi8 : i < 8 := by omega
      refine ⟨rfl, ?_⟩
      refine yes ?_
      refine ⟨_, rfl, _, rfl, st, gl, cl, n + 1 + i, _, rfl, L', by omega, .inr ⟨abc, rfl, by decide +kernel, by decide +kernel, fun j c H2 hc L2 kp2 => ?_⟩⟩
      have nB : ¬ N3 st gl cl B := L1.new hB
      refine ⟨_, kp2 _ _ nB hcs, by rw [List.length_map, List.length_map, hcl]; exact Nat.lt_trans hi8 (by decide), L2.upd nB, keptNew (kp'.trans kp2) hB, cs ++ [c], ?_, ?_, ?_⟩
      · rw [upd_same, List.map_append, List.map_append]; rfl
      · rw [List.length_append, hcl]; rfl
      · intro x hx
        rcases List.mem_append.mp hx with q | q
        · exact hlow x q
        · rw [List.mem_singleton.mp q]
          exact abc_low c (List.mem_of_getElem? hc)
    · rintro H2 ⟨L2, kp2, cs, hcs, hcl, hlow⟩
      have nB : ¬ N3 st gl cl B := L1.new hB
      have c1 : 1 ≤ cs.length := by omega
      have c8 : cs.length ≤ 8 := by omega
      have hlen : ((cs.map ch).map V.str).length = cs.length := by rw [List.length_map, List.length_map]
      refine ⟨_, rfl, _, rfl, B, _, rfl, .inl (SqL.of hcs), st, gl, cl, n + 1 + (1 + r).toNat, _, rfl, L2, by omega, by omega, by omega, fun at_ H3 a0 a1 L3 kp3 => ?_⟩
      refine ⟨_, rfl, st, gl, cl, _, 26, rfl, L3, by omega, by decide, by decide, fun sh H4 s0 s1 L4 kp4 => ?_⟩
      refine ⟨_, rfl, (by decide +kernel : 6 ≤ sizeLine), fun e he => ⟨st, gl, cl, _, _, rfl, L4.same (Same.new he), by omega, .inl ⟨e, _, rfl, SqL.of upd_same, fun _ _ => L4.new he, by simp, by decide, fun j v H5 hj L5 kp5 => ?_⟩⟩⟩
      obtain ⟨stp, rfl⟩ : ∃ i, v = V.int i := by
        have := List.mem_of_getElem? hj
        simp at this
        rcases this with h | h | h | h | h | h <;> exact ⟨_, h⟩
      refine ⟨_, _, rfl, by decide, fun l hl => ?_⟩
      have B5 : H5 B = some (.lst ((cs.map ch).map V.str)) := kp5 _ _ nB (Same.new he _ _ (kp4 _ _ nB (kp3 _ _ nB hcs)))
      have K5 : Kept (N3 st gl cl) H H5 := ((((kp1.trans kp2).trans kp3).trans kp4).trans (Same.kept (Same.new he))).trans kp5
      have hBH : H B = none := by
        cases q : H B with
        | none => rfl
        | some o =>
          have z : ¬ N3 st gl cl B := nB
          have := kp1 _ _ z q
          rw [hB] at this; cases this
      have hlH : H l = none := by
        cases q : H l with
        | none => rfl
        | some o =>
          have := K5 _ _ (L5.new hl) q
          rw [hl] at this; cases this
      have nl : ¬ N3 st gl cl l := L5.new hl
      have Bl : B ≠ l := ne_of_none B5 hl
      have L5' := L5.mono (show _ ≤ n + 20 by omega)
      refine ⟨_, rfl, _, rfl, by omega, by omega, for_range (fun i σ H' => (∃ z, σ = [some (.ref st), some (.int many), some (.str abc), some (.ref B), some (.int at_), some (.int sh), some (.int stp), some (.ref l), z]) ∧ LS st gl cl (n + 20) H' ∧ Kept (N3 st gl cl) H H' ∧
        (∃ ds : List Nat, H' B = some (.lst ((ds.map ch).map V.str)) ∧ ds.length = cs.length ∧ ∀ c ∈ ds, isLow c = true) ∧ ∃ ns : List Str, H' l = some (.lst (ns.map V.str)) ∧ ns.length = i ∧ ∀ x ∈ ns, isNameS x = true)
        ⟨⟨none, rfl⟩, L5'.upd nl, keptNew K5 hlH, ⟨cs, by rw [upd_ne Bl]; exact B5, rfl, hlow⟩, [], upd_same, rfl, by simp⟩ ?_ ?_⟩
      · rintro i σ H6 hi ⟨⟨z, rfl⟩, L6, kp6, ⟨ds, hds, hdl, hdlow⟩, ns, hns, hnl, hnm⟩
        have q0 : 0 ≤ (sh + stp * (0 + (i : Int))) % 26 := Int.emod_nonneg _ (by decide)
        have q1 : (sh + stp * (0 + (i : Int))) % 26 < 26 := Int.emod_lt_of_pos _ (by decide)
        obtain ⟨c, e1, e2⟩ := atI_at (xs := abc.cps.toList) q0 (by rw [abc_len]; exact q1)
        refine ⟨_, rfl, _, rfl, _, rfl, _, rfl, _, _, rfl, rfl, .inr ⟨by omega, by omega⟩, _, _, rfl, rfl, _, _, rfl, rfl, (by decide : (0 : Int) < 26), abc, _, c, rfl, rfl, (by decide +kernel), e1, ?_⟩
        have at0 : ixN (((ds.map ch).map V.str).length) at_ = some at_.toNat := by
          unfold ixN
          rw [List.length_map, List.length_map, if_pos a0, if_pos (by omega)]
        refine ⟨_, rfl, _, rfl, B, _, at_, _, rfl, rfl, hds, at0, ?_⟩
        have es : ((ds.map ch).map V.str).set at_.toNat (.str ⟨#[c]⟩) = (((ds.set at_.toNat c).map ch).map V.str) := by rw [List.map_set, List.map_set]; rfl
        have hl7 : ∀ x ∈ ds.set at_.toNat c, isLow x = true := fun x hx => by
          rcases List.mem_or_eq_of_mem_set hx with q | q
          · exact hdlow x q
          · rw [q]; exact abc_low c (List.mem_of_getElem? e2)
        have u1 : upd H6 B (.lst (((ds.map ch).map V.str).set at_.toNat (.str (ch c)))) l = some (.lst (ns.map V.str)) := by rw [upd_ne Bl.symm]; exact hns
        have hsl : (ds.set at_.toNat c).length ≤ 8 := by rw [List.length_set]; omega
        refine ⟨_, rfl, .inl ⟨rfl, _, SqL.of u1⟩, rfl, _, rfl, "", B, (ds.set at_.toNat c).map ch, rfl, rfl, .inl (SqL.of (by rw [upd_same, es])), ?_, ?_⟩
        · rw [ch_sum, List.length_map]
          show _ + _ * 0 ≤ _
          omega
        rw [join_ch]
        refine ⟨l, _, _, rfl, rfl, u1, by rw [List.length_map, hnl]; exact Nat.lt_trans (show i < 101 by omega) (by decide), ?_⟩
        refine ⟨⟨_, rfl⟩, (L6.upd nB).upd nl, keptNew (keptNew kp6 hBH) hlH, ⟨_, by rw [upd_ne Bl, upd_same, es], by rw [List.length_set]; exact hdl, hl7⟩, ns ++ [_], by rw [upd_same, List.map_append]; rfl, by rw [List.length_append, hnl]; rfl, fun x hx => ?_⟩
        rcases List.mem_append.mp hx with q | q
        · exact hnm x q
        · rw [List.mem_singleton.mp q]
          exact name_of (by rw [List.length_set]; omega) hsl hl7
      · rintro σ H6 ⟨⟨z, rfl⟩, L6, kp6, _, ns, hns, hnl, hnm⟩
        exact ⟨_, rfl, k l ns H6 hlH L6 kp6 hns hnl hnm⟩
end
end L2.K01
/-! K01j -/
set_option Elab.async false
set_option linter.all false
set_option maxRecDepth 100000
set_option maxHeartbeats 4000000
namespace L2.Wb
open PySem PySem.Spec PyProof.Rows
/-- over a text's signs -/
theorem lc_text {z : Str} {g : TG} {tt : TT} {te : TE} {vs : List Nat} {σ : L2.St} {H1 : Hp} {D : Addr} {Qd : Hp → Prop} (Pv : Nat → Hp → Prop) (h0 : Pv 0 (upd H1 D (.lst [])))
    (hs : ∀ i c H, z.cps.toList[i]? = some c → Pv i H → g (.str ⟨#[c]⟩) (wipe σ vs) H fun σ2 H2 => wipe σ2 vs = wipe σ vs ∧ tt σ2 H2 fun b H3 =>
      if b = true then te σ2 H3 fun y H4 => ∃ acc, H4 D = some (.lst acc) ∧ acc.length < sizeLine ∧ Pv (i + 1) (upd H4 D (.lst (acc ++ [y]))) else Pv (i + 1) H3) (hd : ∀ H, Pv z.cps.toList.length H → Qd H) :
    ∃ W : Nat → Nat → Hp → Prop, (∃ m, W 0 m (upd H1 D (.lst []))) ∧ ∀ i m H, W i m H →
      ((Its z).stop i H ∧ Qd H) ∨ ((Its z).go i H ∧ ∃ Nx : Hp → Prop, (∀ H', Nx H' → ∃ m', m' < m ∧ W (i + 1) m' H') ∧ ∀ x H', (Its z).yld i H x H' → g x (wipe σ vs) H' fun σ2 H2 => wipe σ2 vs = wipe σ vs ∧ tt σ2 H2 fun b H3 =>
        if b = true then te σ2 H3 fun y H4 => ∃ acc, H4 D = some (.lst acc) ∧ acc.length < sizeLine ∧ Nx (upd H4 D (.lst (acc ++ [y]))) else Nx H3) := by
  have hz : z.cps.toList.length = z.cps.size := by simp
  refine ⟨fun i m H => m = z.cps.size - i ∧ i ≤ z.cps.size ∧ Pv i H, ⟨z.cps.size, by simp, Nat.zero_le _, h0⟩, ?_⟩
  rintro i m H ⟨rfl, hi, p⟩
  by_cases hlt : i < z.cps.size
  · refine .inr ⟨hlt, Pv (i + 1), fun H' p' => ⟨z.cps.size - (i + 1), by omega, rfl, hlt, p'⟩, fun x H' y => ?_⟩
    obtain ⟨e, c, hc, rfl⟩ := y
    subst e
    exact hs i c _ (by rw [← hc]; simp) p
  · have e : i = z.cps.size := by omega
    subst e
    rw [hz] at hd
    exact .inl ⟨Nat.le_refl _, hd H p⟩
end L2.Wb
namespace L2.K01
open PySem PySem.Spec PyProof.Rows L2.Wb
abbrev sLIs : Stmt := top 22
abbrev sWhole : Stmt := top 23
abbrev sUnlike : Stmt := top 24
abbrev sDue : Stmt := top 25
theorem k_str (d : PyData) : kitB (tyName d) "str" = some (match d with | .str _ => true | _ => false) := by
  cases d with
  | none => exact (by decide +kernel : kitB "NoneType" "str" = some false)
  | bool _ => exact (by decide +kernel : kitB "bool" "str" = some false)
  | int _ => exact (by decide +kernel : kitB "int" "str" = some false)
  | str _ => exact (by decide +kernel : kitB "str" "str" = some true)
  | list _ => exact (by decide +kernel : kitB "list" "str" = some false)
  | tuple _ => exact (by decide +kernel : kitB "tuple" "str" = some false)
  | dict _ => exact (by decide +kernel : kitB "dict" "str" = some false)
theorem k_int (d : PyData) : kitB (tyName d) "int" = some (match d with | .int _ => true | .bool _ => true | _ => false) := by
  cases d with
  | none => exact (by decide +kernel : kitB "NoneType" "int" = some false)
  | bool _ => exact (by decide +kernel : kitB "bool" "int" = some true)
  | int _ => exact (by decide +kernel : kitB "int" "int" = some true)
  | str _ => exact (by decide +kernel : kitB "str" "int" = some false)
  | list _ => exact (by decide +kernel : kitB "list" "int" = some false)
  | tuple _ => exact (by decide +kernel : kitB "tuple" "int" = some false)
  | dict _ => exact (by decide +kernel : kitB "dict" "int" = some false)
theorem k_bool (d : PyData) : kitB (tyName d) "bool" = some (match d with | .bool _ => true | _ => false) := by
  cases d with
  | none => exact (by decide +kernel : kitB "NoneType" "bool" = some false)
  | bool _ => exact (by decide +kernel : kitB "bool" "bool" = some true)
  | int _ => exact (by decide +kernel : kitB "int" "bool" = some false)
  | str _ => exact (by decide +kernel : kitB "str" "bool" = some false)
  | list _ => exact (by decide +kernel : kitB "list" "bool" = some false)
  | tuple _ => exact (by decide +kernel : kitB "tuple" "bool" = some false)
  | dict _ => exact (by decide +kernel : kitB "dict" "bool" = some false)
theorem k_list (d : PyData) : kitB (tyName d) "list" = some (match d with | .list _ => true | _ => false) := by
  cases d with
  | none => exact (by decide +kernel : kitB "NoneType" "list" = some false)
  | bool _ => exact (by decide +kernel : kitB "bool" "list" = some false)
  | int _ => exact (by decide +kernel : kitB "int" "list" = some false)
  | str _ => exact (by decide +kernel : kitB "str" "list" = some false)
  | list _ => exact (by decide +kernel : kitB "list" "list" = some true)
  | tuple _ => exact (by decide +kernel : kitB "tuple" "list" = some false)
  | dict _ => exact (by decide +kernel : kitB "dict" "list" = some false)
theorem k_tuple (d : PyData) : kitB (tyName d) "tuple" = some (match d with | .tuple _ => true | _ => false) := by
  cases d with
  | none => exact (by decide +kernel : kitB "NoneType" "tuple" = some false)
  | bool _ => exact (by decide +kernel : kitB "bool" "tuple" = some false)
  | int _ => exact (by decide +kernel : kitB "int" "tuple" = some false)
  | str _ => exact (by decide +kernel : kitB "str" "tuple" = some false)
  | list _ => exact (by decide +kernel : kitB "list" "tuple" = some false)
  | tuple _ => exact (by decide +kernel : kitB "tuple" "tuple" = some true)
  | dict _ => exact (by decide +kernel : kitB "dict" "tuple" = some false)
theorem abc_mem (c : Nat) : decide (c ∈ abc.cps.toList) = isLow c := by
  have e : abc.cps.toList = List.range' 97 26 := by decide +kernel
  rw [e, Bool.eq_iff_iff]
  unfold isLow
  simp [List.mem_range']
  constructor
  · rintro ⟨i, hi, rfl⟩; omega
  · rintro ⟨h1, h2⟩; exact ⟨c - 97, by omega, by omega⟩
/-- texts alone -/
theorem strs_dp {K : PySem.W.Frag} {H : Hp} : ∀ zs : List Str, DpAll K H (zs.map V.str) (zs.map PyData.str)
  | [] => .nil
  | z :: r => .cons (.str z) (strs_dp r)
/-- a text is short and of signs -/
def OkS (d : PyData) : Prop := ∀ z, d = .str z → z.length ≤ 1000 ∧ PyData.strOk z = true
theorem OkS.short {d : PyData} (h : OkS d) : ShortD d := by
  cases d with
  | str z => exact (h z rfl).1
  | _ => trivial
theorem strs_shaped {zs : List Str} (h : ∀ z ∈ zs, PyData.strOk z = true) : PySem.SeqAt.shaped (.list (zs.map PyData.str)) = true := by
  unfold PySem.SeqAt.shaped
  rw [Bool.and_eq_true]
  refine ⟨canAll fun d hd => ?_, decide_eq_true ?_⟩
  · obtain ⟨z, hz, rfl⟩ := List.mem_map.mp hd; exact h z hz
  · have : PyData.depthAll (zs.map PyData.str) ≤ 0 := depthAll_le fun d hd => by obtain ⟨i, _, rfl⟩ := List.mem_map.mp hd; exact Nat.le_refl _
    show PyData.depthAll _ + 1 ≤ 64
    omega
theorem eqv_nilS (zs : List Str) : PyData.eqv (.list (zs.map PyData.str)) (.list []) = zs.isEmpty := by cases zs <;> rfl
def spLIs : Sp := fun vs H Q _ => ∃ (x : V) (d : PyData), vs = [x] ∧ Dx H x d ∧ OkS d ∧ ∀ H', Same H H' → Q (.bl (isNameD d)) H'
def spWhole : Sp := fun vs H Q _ => ∃ (x : V) (d : PyData) (lo hi : Int), vs = [x, .int lo, .int hi] ∧ Dx H x d ∧ Q (.bl (isNumD lo hi d)) H
structure TxtJ (K : PySem.W.Frag) (mg : Str → Option Value) : Prop where
  t : Txt K mg
  nisi : mg "isinstance" = none
  nbool : mg "bool" = none
section
variable {P : Program} {w : World} {K : PySem.W.Frag} {mg : Str → Option Value} {base : Heap} {fI fW fU : Addr} {dI dW dU : FuncData}
theorem scLIs : FnScope ["item", "sign"] ["item"] (defScope sLIs) := ⟨rfl, rfl, rfl, by decide +kernel, rfl, by decide +kernel, by decide +kernel⟩
theorem ok_lis {f : Addr} {fd : FuncData} (F : Fun K "_law_is_name" "_law_is_name" sLIs f fd) (T : TxtJ K mg) : FnOk P w K mg base CX0 1 f fd ["item"] spLIs := by
  refine F.ok scLIs (fun vs H Q E h => ?_) (fun cdv A outer s H vs Q E hr h => ?_)
  · obtain ⟨_, _, rfl, _⟩ := h; rfl
  · obtain ⟨x, d, rfl, hd, hsh, k⟩ := h
    refine ⟨_, pss_cons (ps_if (PW.pt (pw_or (pt_not (pt_val (pe_callB call_isi (by rfl) T.nisi (by decide +kernel) (pa_cons (pv 0) (pa_cons (pe_bltn (v := .ty "str") (by rfl) T.t.nstr (by decide +kernel) rfl) pa_nil))))) (pw_or1 (pt_not (pt_chain op_le op_le pe_int (pe_callB call_len_str (by rfl) T.t.nlen PySem.boot_len (pa_cons (pv 0) pa_nil)) pe_int)))))
        (pss_one (ps_ret pe_bl)) pss_nil)
      (pss_one (ps_ret (pe_cmpR (op_eqD hr.units) (pe_lc (own := [("sign", 1)]) (g := gName 1) rfl scLIs.nd (pi_str (pv 0)) (blkOk_by (own := [("sign", 1)]) (N := ["item", "sign"]) (sc := defScope sLIs) (by decide +kernel))
        (fun _ _ _ _ _ => pg_name (i := 1) scLIs.nd rfl (Or.inl rfl)) (fun _ _ _ _ _ => pts_one (pt_cmpR op_notIn_sign (pv 1) pe_str (by rfl))) (fun _ _ _ _ _ => pv 1)) (pe_lst pa_nil) (nomark _)))), ?_⟩
    refine ⟨_, rfl, x, _, _, _, _, rfl, .ty "str", hd.tyX, kit_ty (k_str d), _, rfl, ?_⟩
    cases hd with
    | str z =>
      have hz : z.cps.toList.length = z.length := by simp [Str.length]
      have hz1 : z.length ≤ 1000 := (hsh z rfl).1
      refine iteF ?_
      refine ⟨_, rfl, z, rfl, Nat.le_trans hz1 (by decide), _, _, rfl, rfl, _, rfl, ?_⟩
      by_cases c1 : (1 : Int) ≤ z.length
      · rw [decide_eq_true c1]
        refine iteT ⟨_, _, rfl, rfl, _, rfl, ?_⟩
        by_cases c2 : (z.length : Int) ≤ 8
        · rw [decide_eq_true c2]
          refine iteF ?_
          refine ⟨_, rfl, z, rfl, fun D hD => lc_text (fun i H' => Same H H' ∧ H' D = some (.lst ((((z.cps.toList.take i).filter fun c => !isLow c).map ch).map V.str))) ⟨Same.new hD, upd_same⟩ ?_ ?_⟩
          · rintro i c H' hc ⟨sm, hl⟩
            refine ⟨rfl, ?_⟩
            refine ⟨_, rfl, c, abc, rfl, rfl, _, rfl, ?_⟩
            rw [abc_mem]
            have more : (z.cps.toList.take (i + 1)).filter (fun c => !isLow c) = (z.cps.toList.take i).filter (fun c => !isLow c) ++ (if (!isLow c) = true then [c] else []) := by
              rw [List.take_succ, hc, List.filter_append]
              simp [List.filter]
              cases isLow c <;> rfl
            cases cl : !isLow c
            · refine iteF ⟨sm, ?_⟩
              rw [more, cl]
              simpa using hl
            · refine iteT ⟨_, rfl, _, hl, ?_, fun b o q => ?_, ?_⟩
              · rw [List.length_map, List.length_map]
                refine Nat.lt_of_le_of_lt (List.length_filter_le _ _) ?_
                rw [List.length_take]
                exact Nat.lt_of_le_of_lt (show min i z.cps.toList.length ≤ 1000 by omega) (by decide)
              · rw [upd_ne (ne_of_none q hD)]; exact sm _ _ q
              · rw [upd_same, more, cl, if_pos rfl, List.map_append, List.map_append]; rfl
          · rintro H2 ⟨s2, hl⟩
            rw [List.take_length] at hl
            refine ⟨by decide +kernel, fun p hp => ⟨.list (((z.cps.toList.filter fun c => !isLow c).map ch).map PyData.str), .list [], .lst (SqL.of (Same.new hp _ _ hl)) (strs_dp _), .lst (SqL.of upd_same) .nil, ?_, by decide, ?_⟩⟩
            · refine strs_shaped fun y hy => ?_
              obtain ⟨c, hc, rfl⟩ := List.mem_map.mp hy
              have o := (hsh z rfl).2
              unfold PyData.strOk at o
              rw [← Array.all_toList, List.all_eq_true] at o
              have oc := o c (List.mem_filter.mp hc).1
              show (#[c] : Array Nat).all _ = true
              simpa using oc
            · have := k _ (s2.trans (Same.new (o := .lst []) hp))
              rw [eqv_nilS]
              have e : (((z.cps.toList.filter fun c => !isLow c).map ch).isEmpty) = isNameD (.str z) := by
                show _ = isNameS z
                unfold isNameS
                rw [decide_eq_true (show 1 ≤ z.length by omega), decide_eq_true (show z.length ≤ 8 by omega), Bool.true_and, Bool.true_and, List.isEmpty_map]
                rw [Bool.eq_iff_iff, List.isEmpty_iff, List.filter_eq_nil_iff, List.all_eq_true]
                simp
              rw [e]
              exact this
        · rw [decide_eq_false c2]
          refine iteT ?_
          have := k H (Same.refl _)
          have e : isNameD (.str z) = false := by
            show isNameS z = false
            unfold isNameS
            rw [decide_eq_false (show ¬ z.length ≤ 8 by omega)]
            simp
          rw [e] at this
          exact this
      · rw [decide_eq_false c1]
        refine iteF ⟨_, rfl, ?_⟩
        refine iteT ?_
        have := k H (Same.refl _)
        have e : isNameD (.str z) = false := by
          show isNameS z = false
          unfold isNameS
          rw [decide_eq_false (show ¬ 1 ≤ z.length by omega)]
          simp
        rw [e] at this
        exact this
    | non => refine iteT ?_; exact k H (Same.refl _)
    | bl b => refine iteT ?_; exact k H (Same.refl _)
    | int y => refine iteT ?_; exact k H (Same.refl _)
    | lst a b => refine iteT ?_; exact k H (Same.refl _)
    | tup a b => refine iteT ?_; exact k H (Same.refl _)
    | dct a b => refine iteT ?_; exact k H (Same.refl _)
theorem scWhole : FnScope ["item", "low", "high"] ["item", "low", "high"] (defScope sWhole) := ⟨rfl, rfl, rfl, by decide +kernel, rfl, by decide +kernel, by decide +kernel⟩
theorem ok_whole {f : Addr} {fd : FuncData} (F : Fun K "_law_whole" "_law_whole" sWhole f fd) (T : TxtJ K mg) : FnOk P w K mg base CX0 1 f fd ["item", "low", "high"] spWhole := by
  refine F.ok scWhole (fun vs H Q E h => ?_) (fun cdv A outer s H vs Q E hr h => ?_)
  · obtain ⟨_, _, _, _, rfl, _⟩ := h; rfl
  · obtain ⟨x, d, lo, hi, rfl, hd, k⟩ := h
    refine ⟨_, pss_one (ps_ret (pe_and (pe_callB call_isi (by rfl) T.nisi (by decide +kernel) (pa_cons (pv 0) (pa_cons (pe_bltn (v := .ty "int") (by rfl) T.t.nint (by decide +kernel) rfl) pa_nil)))
      (pe_and (pe_not (pe_callB call_isi (by rfl) T.nisi (by decide +kernel) (pa_cons (pv 0) (pa_cons (pe_bltn (v := .ty "bool") (by rfl) T.nbool (by decide +kernel) rfl) pa_nil))))
      (pe_one (pe_chain op_le op_le (pv 1) (pv 0) (pv 2)))))), ?_⟩
    refine ⟨_, rfl, x, _, _, _, _, rfl, .ty "int", hd.tyX, kit_ty (k_int d), _, rfl, ?_⟩
    cases hd with
    | int i =>
      refine iteT ⟨_, rfl, _, _, _, _, _, rfl, .ty "bool", .base (.int i), kit_ty (k_bool (.int i)), _, rfl, _, rfl, ?_⟩
      refine iteT ?_
      refine ⟨_, rfl, _, rfl, _, _, rfl, rfl, _, rfl, ?_⟩
      by_cases c : lo ≤ i
      · rw [decide_eq_true c]
        refine iteT ⟨_, rfl, _, _, rfl, rfl, ?_⟩
        simpa [isNumD, c] using k
      · rw [decide_eq_false c]
        refine iteF ?_
        simpa [isNumD, c] using k
    | bl b =>
      refine iteT ⟨_, rfl, _, _, _, _, _, rfl, .ty "bool", .base (.bl b), kit_ty (k_bool (.bool b)), _, rfl, _, rfl, ?_⟩
      refine iteF ?_
      exact k
    | non => exact iteF k
    | str y => exact iteF k
    | lst a b => exact iteF k
    | tup a b => exact iteF k
    | dct a b => exact iteF k
end
end L2.K01
/-! K01k -/
set_option Elab.async false
set_option linter.all false
set_option maxRecDepth 100000
set_option maxHeartbeats 4000000
namespace L2.Wb
open PySem PySem.Spec PyProof.Rows
/-- xs != [] -/
def rNeNil (K : PySem.W.Frag) : R2 := fun x y H Q => ∃ a b xs, x = .ref a ∧ y = .ref b ∧ SqL K H a xs ∧ SqL K H b [] ∧ Q (.bl (!xs.isEmpty)) H
theorem op_neNil {X : Cx} (hu : X.A.units + 64 < cLine) : OpR X (compareOp .NotEq) (rNeNil X.K) := by
  intro pins s σ H x y v u Q I rx ry ⟨a, b, xs, ex, ey, hx, hy, q⟩
  subst ex; subst ey
  cases (show v = Value.ref a from rx)
  cases (show u = Value.ref b from ry)
  obtain ⟨its, rv, hl, _⟩ := I.list hx
  obtain ⟨its2, rv2, hl2, _⟩ := I.list hy
  cases rv2
  have hu' : X.A.units < cLine := by omega
  have hn := rv.length
  have sc : ∀ (r : Bool), PySem.SeqAt.RcNeAt X.A s (.ref a) (.ref b) r → EP X pins σ Q (.bool r) s → wpAny (model X.prog X.w) X.A (compareOp .NotEq (.ref a) (.ref b)) (EP X pins σ Q) X.xe s := fun r h z => h _ _ _ _ z
  cases xs with
  | nil =>
    cases rv
    exact sc _ (PySem.SeqAt.RcNeAt.lists (e := fun _ => true) hl.isList hl2.isList rfl hu' (fun j h => absurd h (Nat.not_lt_zero _))) ⟨.bl _, H, I, rfl, q⟩
  | cons z r => exact sc _ (PySem.SeqAt.RcNeAt.lists_lengths hl.isList hl2.isList (by cases rv; rfl) hu') ⟨.bl _, H, I, rfl, q⟩
end L2.Wb
namespace L2.K01
open PySem PySem.Spec PyProof.Rows L2.Wb
def OkQ (d : PyData) : Prop := ∀ ds, seqOf d = some ds → ds.length ≤ 1000 ∧ ∀ e ∈ ds, OkS e
def unlikeD (d : PyData) (many : Nat) : Bool := match seqOf d with
  | some ds => decide (1 ≤ ds.length) && decide (ds.length ≤ many) && namesD ds
  | none => false
def spUnlike : Sp := fun vs H Q _ => ∃ (x : V) (d : PyData) (many : Nat), vs = [x, .int many] ∧ many ≤ 100 ∧ Dx H x d ∧ OkQ d ∧ ∀ H', Same H H' → Q (.bl (unlikeD d many)) H'
theorem k_seq {K : PySem.W.Frag} (d : PyData) : PySem.W.kitAny K (.type (tyName d)) [.type "list", .type "tuple"] = some (seqOf d).isSome := by
  cases d with
  | none => exact kitAny_cons (b := false) (r := false) (kit_ty (k_list (.none))) (fun _ => kitAny_cons (b := false) (kit_ty (k_tuple (.none))) (fun _ => kitAny_nil) (fun h => h)) (fun h => Bool.noConfusion h)
  | bool b => exact kitAny_cons (b := false) (r := false) (kit_ty (k_list (.bool b))) (fun _ => kitAny_cons (b := false) (kit_ty (k_tuple (.bool b))) (fun _ => kitAny_nil) (fun h => h)) (fun h => Bool.noConfusion h)
  | int b => exact kitAny_cons (b := false) (r := false) (kit_ty (k_list (.int b))) (fun _ => kitAny_cons (b := false) (kit_ty (k_tuple (.int b))) (fun _ => kitAny_nil) (fun h => h)) (fun h => Bool.noConfusion h)
  | str b => exact kitAny_cons (b := false) (r := false) (kit_ty (k_list (.str b))) (fun _ => kitAny_cons (b := false) (kit_ty (k_tuple (.str b))) (fun _ => kitAny_nil) (fun h => h)) (fun h => Bool.noConfusion h)
  | dict b => exact kitAny_cons (b := false) (r := false) (kit_ty (k_list (.dict b))) (fun _ => kitAny_cons (b := false) (kit_ty (k_tuple (.dict b))) (fun _ => kitAny_nil) (fun h => h)) (fun h => Bool.noConfusion h)
  | list b => exact kitAny_cons (b := true) (r := true) (kit_ty (k_list (.list b))) (fun h => Bool.noConfusion h) (fun _ => rfl)
  | tuple b => exact kitAny_cons (b := false) (r := true) (kit_ty (k_list (.tuple b))) (fun _ => kitAny_cons (b := true) (kit_ty (k_tuple (.tuple b))) (fun h => Bool.noConfusion h) (fun _ => rfl)) (fun h => Bool.noConfusion h)
section
variable {P : Program} {w : World} {K : PySem.W.Frag} {mg : Str → Option Value} {base : Heap} {fI fW fU : Addr} {dI dW dU : FuncData}
theorem scUnlike : FnScope ["item", "many", "one"] ["item", "many"] (defScope sUnlike) := ⟨rfl, rfl, rfl, by decide +kernel, rfl, by decide +kernel, by decide +kernel⟩
theorem ok_unlike {f : Addr} {fd : FuncData} (F : Fun K "_law_unlike" "_law_unlike" sUnlike f fd) (T : TxtJ K mg) (GI : FnOk P w K mg base CX0 1 fI dI ["item"] spLIs) (gI : mg "_law_is_name" = some (.ref fI)) (kI : PySem.W.keepIn K (.ref fI) = true) (bI : Binds K dI ["item"] []) :
    FnOk P w K mg base CX0 2 f fd ["item", "many"] spUnlike := by
  refine F.ok scUnlike (fun vs H Q E h => ?_) (fun cdv A outer s H vs Q E hr h => ?_)
  · obtain ⟨_, _, _, rfl, _⟩ := h; rfl
  · obtain ⟨x, d, many, rfl, hm, hd, hq, k⟩ := h
    refine ⟨_, pss_cons (ps_if (PW.pt (pw_or (pt_not (pt_val (pe_callB call_isiT (by rfl) T.nisi (by decide +kernel) (pa_cons (pv 0) (pa_cons (pe_tup (pa_cons (pe_bltn (v := .ty "list") (by rfl) T.t.nlst (by decide +kernel) rfl) (pa_cons (pe_bltn (v := .ty "tuple") (by rfl) T.t.ntup (by decide +kernel) rfl) pa_nil))) pa_nil))))) (pw_or1 (pt_not (pt_chain op_le op_le pe_int (pe_callB call_len_seq (by rfl) T.t.nlen PySem.boot_len (pa_cons (pv 0) pa_nil)) (pv 1))))))
        (pss_one (ps_ret pe_bl)) pss_nil)
      (pss_cons (ps_if (pt_cmpR (op_neNil hr.units) (pe_lc (own := [("one", 2)]) (g := gName 2) rfl scUnlike.nd (pi_seqV 0) (blkOk_by (own := [("one", 2)]) (N := ["item", "many", "one"]) (sc := defScope sUnlike) (by decide +kernel))
          (fun _ _ _ _ _ => pg_name (i := 2) scUnlike.nd rfl (Or.inl rfl)) (fun _ _ _ _ _ => pts_one (pt_not (pt_val (pe_call GI hr rfl gI kI bI .nil pass0 (pa_cons (pv 2) pa_nil))))) (fun _ _ _ _ _ => pv 2)) (pe_lst pa_nil) (nomark _))
        (pss_one (ps_ret pe_bl)) pss_nil)
      (pss_one (ps_ret (pe_cmpR op_eq (pe_lenOnce rfl (by rfl) T.t.nlen (by rfl) T.t.nset (pv 0)) (pe_callB call_len_seq (by rfl) T.t.nlen PySem.boot_len (pa_cons (pv 0) pa_nil)) (nomark _))))), ?_⟩
    refine ⟨_, rfl, by decide +kernel, fun p hp => ⟨x, p, [.ty "list", .ty "tuple"], _, _, _, rfl, upd_same, .cons (.ty _) (.cons (.ty _) .nil), (hd.same (Same.new hp)).tyX, k_seq d, _, rfl, ?_⟩⟩
    have s1 : Same H (upd H p (.tup [.ty "list", .ty "tuple"])) := Same.new hp
    generalize hH1 : upd H p (.tup [.ty "list", .ty "tuple"]) = H1 at s1
    have hd1 := hd.same s1
    cases e_ : seqOf d with
    | none =>
      refine iteT ?_
      have := k H1 s1
      unfold unlikeD at this
      rw [e_] at this
      exact this
    | some ds =>
      refine iteF ?_
      obtain ⟨a, xs, rfl, hx, ha⟩ := Dx.sq hd1 e_
      have hl := hx.len
      obtain ⟨h1000, hok⟩ := hq ds e_
      obtain ⟨J, S, wk, hS⟩ := sq_walk (K := K) ha
      have kk : ∀ H', Same H1 H' → Q (.bl (decide (1 ≤ ds.length) && decide (ds.length ≤ many) && namesD ds)) H' := fun H' z => by
        have := k H' (s1.trans z)
        unfold unlikeD at this
        rw [e_] at this
        exact this
      refine ⟨_, rfl, a, xs, rfl, sq_any ha, _, _, rfl, rfl, _, rfl, ?_⟩
      by_cases c1 : 1 ≤ ds.length
      · rw [decide_eq_true (show (1 : Int) ≤ (xs.length : Int) by omega)]
        refine iteT ⟨_, rfl, _, _, rfl, rfl, _, rfl, ?_⟩
        rw [decide_eq_true c1, Bool.true_and] at kk
        by_cases c2 : ds.length ≤ many
        · rw [decide_eq_true (show (xs.length : Int) ≤ (many : Int) by omega)]
          refine iteF ?_
          rw [decide_eq_true c2, Bool.true_and] at kk
          refine ⟨a, xs, J, S, rfl, wk, hS, fun D hD => lc_wk wk (fun i H' => Same H1 H' ∧ ∃ vs, H' D = some (.lst vs) ∧ vs.length ≤ i ∧ vs.isEmpty = (ds.take i).all isNameD) ⟨Same.new hD, [], upd_same, Nat.le_refl _, rfl⟩ (fun i H' _ h' => wk.stay h'.1 hS) ?_ ?_⟩
          · rintro i y H' hi ⟨sm, vs, hv, hvl, hve⟩
            obtain ⟨e, he, hy⟩ := hx.get hi
            have hi' : i < ds.length := (List.getElem?_eq_some_iff.mp he).1
            refine ⟨rfl, ?_⟩
            have more : (ds.take (i + 1)).all isNameD = ((ds.take i).all isNameD && isNameD e) := by
              rw [List.take_succ, he]; simp
            refine ⟨_, rfl, y, e, rfl, hy.same sm, hok e (List.mem_of_getElem? he), fun H2 s2 => ⟨_, rfl, ?_⟩⟩
            cases ce : isNameD e
            · refine iteT ⟨_, rfl, vs, s2 _ _ hv, Nat.lt_of_le_of_lt hvl (Nat.lt_of_lt_of_le hi' (Nat.le_trans h1000 (by decide))), fun b o z => ?_, vs ++ [y], upd_same, ?_, ?_⟩
              · rw [upd_ne (ne_of_none z hD)]; exact s2 _ _ (sm _ _ z)
              · rw [List.length_append]; exact Nat.succ_le_succ hvl
              · rw [more, ce, Bool.and_false]
                cases vs <;> rfl
            · refine iteF ⟨sm.trans s2, vs, s2 _ _ hv, by omega, ?_⟩
              rw [more, ce, Bool.and_true]
              exact hve
          · rintro H2 ⟨s2, vs, hv, hvl, hve⟩
            rw [hl, List.take_length] at hve
            refine ⟨by decide +kernel, fun p2 hp2 => ⟨D, p2, vs, rfl, rfl, SqL.of (Same.new hp2 _ _ hv), SqL.of upd_same, _, rfl, ?_⟩⟩
            have s3 : Same H2 (upd H2 p2 (.lst [])) := Same.new hp2
            rw [hve]
            cases c : ds.all isNameD
            · refine iteT ?_
              have := kk _ (s2.trans s3)
              unfold namesD at this
              rw [c] at this
              exact this
            · refine iteF ?_
              have hxs := names_are hx c
              have s13 := s2.trans s3
              refine ⟨_, rfl, a, ds.map strOf, rfl, ?_, by rw [List.length_map]; omega, _, rfl, a, xs, rfl, ?_, rfl, ?_⟩
              · rw [← hxs]; exact (sq_any ha).imp (fun q => s13.seq q) (fun q => sameT s13 q)
              · exact (sq_any ha).imp (fun q => s13.seq q) (fun q => sameT s13 q)
              · have e1 : decide (V.int ((PySem.WbS.once (ds.map strOf)).length : Nat) = V.int xs.length) = decide (ds.map strOf).Nodup := by
                  rw [← PySem.WbS.once_nodup, dec_int, hl, List.length_map]
                  by_cases q : (PySem.WbS.once (ds.map strOf)).length = ds.length
                  · rw [q, decide_eq_true rfl, beq_self_eq_true]
                  · rw [decide_eq_false q]; exact beq_eq_false_iff_ne.mpr (by omega)
                show Q (V.bl (decide (V.int ((PySem.WbS.once (ds.map strOf)).length : Nat) = V.int xs.length))) _
                rw [e1]
                have := kk _ s13
                unfold namesD at this
                rw [c, Bool.true_and] at this
                exact this
        · rw [decide_eq_false (show ¬ (xs.length : Int) ≤ (many : Int) by omega)]
          refine iteT ?_
          have := kk H1 (Same.refl _)
          rw [decide_eq_false c2] at this
          exact this
      · rw [decide_eq_false (show ¬ (1 : Int) ≤ (xs.length : Int) by omega)]
        refine iteF ⟨_, rfl, ?_⟩
        refine iteT ?_
        have := kk H1 (Same.refl _)
        rw [decide_eq_false c1] at this
        exact this
end
end L2.K01
/-! K01l -/
set_option Elab.async false
set_option linter.all false
set_option maxRecDepth 100000
set_option maxHeartbeats 8000000
namespace L2.K01
open PySem PySem.Spec PyProof.Rows L2.Wb
def OkB (d : PyData) : Prop := ∀ ds, seqOf d = some ds → ds.length ≤ 1000 ∧ ∀ e ∈ ds, OkS (fstD e)
def spDue (K : PySem.W.Frag) : Sp := fun vs H Q _ => ∃ (r : Addr) (vN vP vH vS : V) (dN dP dH dS : PyData), vs = [.ref r] ∧ SqL K H r [vN, vP, vH, vS] ∧ Dx H vN dN ∧ Dx H vP dP ∧ Dx H vH dH ∧ Dx H vS dS ∧ OkQ dN ∧ OkB dP ∧ ∀ H', Same H H' → Q (.bl (yardD dN dP dH dS)) H'
structure TxtD (K : PySem.W.Frag) (mg : Str → Option Value) (fW fU : Addr) : Prop where
  t : TxtJ K mg
  gW : mg "_law_whole" = some (.ref fW)
  kW : PySem.W.keepIn K (.ref fW) = true
  gU : mg "_law_unlike" = some (.ref fU)
  kU : PySem.W.keepIn K (.ref fU) = true
theorem unlike8 (d : PyData) : unlikeD d 8 = thingsD d := by unfold unlikeD thingsD; cases seqOf d <;> rfl
theorem not_beams {d e : PyData} {ds : List PyData} (h : seqOf d = some ds) (he : e ∈ ds) (hb : beamD e = false) : beamsD d = false := by
  unfold beamsD
  rw [h]
  have : ds.all beamD = false := by
    rw [← Bool.not_eq_true]
    intro z
    rw [List.all_eq_true.mp z e he] at hb
    cases hb
  show (_ && _ && (ds.all beamD && _)) = false
  rw [this, Bool.false_and, Bool.and_false]
theorem yd_t {a b c d : PyData} (h : thingsD a = false) : yardD a b c d = false := by unfold yardD; rw [h]; rfl
theorem yd_b {a b c d : PyData} (h : beamsD b = false) : yardD a b c d = false := by unfold yardD; rw [h]; simp
theorem yd_m {a b c d : PyData} (h : isNumD 1 100 c = false) : yardD a b c d = false := by unfold yardD; rw [h]; simp
theorem yd_l {a b c d : PyData} (h : isNumD 0 9 d = false) : yardD a b c d = false := by unfold yardD; rw [h]; simp
theorem beams_of {d : PyData} {ds : List PyData} (h : seqOf d = some ds) (hb : ds.all beamD = true) : beamsD d = unlikeD (.list (ds.map fstD)) 3 := by
  unfold beamsD unlikeD
  rw [h]
  show (decide (1 ≤ ds.length) && decide (ds.length ≤ 3) && (ds.all beamD && namesD (ds.map fstD))) = (decide (1 ≤ (ds.map fstD).length) && decide ((ds.map fstD).length ≤ 3) && namesD (ds.map fstD))
  rw [hb, Bool.true_and, List.length_map]
section
variable {P : Program} {w : World} {K : PySem.W.Frag} {mg : Str → Option Value} {base : Heap} {fW fU : Addr} {dW dU : FuncData}
theorem scDue : FnScope ["row", "names", "pairs", "heavy", "slant", "one", "total"] ["row"] (defScope sDue) := ⟨rfl, rfl, rfl, by decide +kernel, rfl, by decide +kernel, by decide +kernel⟩
theorem ok_due {f : Addr} {fd : FuncData} (F : Fun K "_law_due" "_law_due" sDue f fd) (T : TxtD K mg fW fU) (GW : FnOk P w K mg base CX0 1 fW dW ["item", "low", "high"] spWhole) (bW : Binds K dW ["item", "low", "high"] []) (GU : FnOk P w K mg base CX0 2 fU dU ["item", "many"] spUnlike) (bU : Binds K dU ["item", "many"] []) :
    FnOk P w K mg base CX0 3 f fd ["row"] (spDue K) := by
  refine F.ok scDue (fun vs H Q E h => ?_) (fun cdv A outer s H vs Q E hr h => ?_)
  · obtain ⟨_, _, _, _, _, _, _, _, _, rfl, _⟩ := h; rfl
  · obtain ⟨r, vN, vP, vH, vS, dN, dP, dH, dS, rfl, hrow, hN, hP, hH, hS_, oN, oP, k⟩ := h
    have hr1 : Room 1 _ := hr.mono (by decide)
    refine ⟨_, pss_cons (ps_asg (pv 0) (pg_lst rfl (pgs_cons (pg_name (i := 1) scDue.nd rfl (Or.inl rfl)) (pgs_cons (pg_name (i := 2) scDue.nd rfl (Or.inl rfl)) (pgs_cons (pg_name (i := 3) scDue.nd rfl (Or.inl rfl)) (pgs_cons (pg_name (i := 4) scDue.nd rfl (Or.inl rfl)) pgs_nil))))))
      (pss_cons (ps_if (PW.pt (pw_or (pt_not (pt_val (pe_call GU hr rfl T.gU T.kU bU .nil pass0 (pa_cons (pv 1) (pa_cons pe_int pa_nil))))) (pw_or1 (pt_not (pt_val (pe_callB call_isiT (by rfl) T.t.nisi (by decide +kernel) (pa_cons (pv 2) (pa_cons (pe_tup (pa_cons (pe_bltn (v := .ty "list") (by rfl) T.t.t.nlst (by decide +kernel) rfl) (pa_cons (pe_bltn (v := .ty "tuple") (by rfl) T.t.t.ntup (by decide +kernel) rfl) pa_nil))) pa_nil))))))))
        (pss_one (ps_ret pe_bl)) pss_nil)
      (pss_cons (ps_for PassesOwn.never rfl (pi_seqV 2) (pg_name (i := 5) scDue.nd rfl (Or.inl rfl))
        (pss_one (ps_if (PW.pt (pw_or (pt_not (pt_val (pe_callB call_isi (by rfl) T.t.nisi (by decide +kernel) (pa_cons (pv 5) (pa_cons (pe_bltn (v := .ty "tuple") (by rfl) T.t.t.ntup (by decide +kernel) rfl) pa_nil)))))
          (pw_or (pt_cmpR op_ne (pe_callB call_len_seq (by rfl) T.t.t.nlen PySem.boot_len (pa_cons (pv 5) pa_nil)) pe_int (nomark _))
          (pw_or (pt_not (pt_val (pe_call GW hr1 rfl T.gW T.kW bW .nil pass0 (pa_cons (pe_ix ix_tup (pv 5) pe_int (fun _ _ => rfl)) (pa_cons (pe_un un_neg pe_int) (pa_cons pe_int pa_nil))))))
          (pw_or1 (pt_cmpR op_eq (pe_ix ix_tup (pv 5) pe_int (fun _ _ => rfl)) pe_int (nomark _))))))) (pss_one (ps_ret pe_bl)) pss_nil)))
      (pss_cons (ps_if (PW.pt (pw_or (pt_not (pt_val (pe_call GU hr rfl T.gU T.kU bU .nil pass0 (pa_cons
          (pe_lc (own := [("one", 5)]) (g := gName 5) (tt := tYes) rfl scDue.nd (pi_seqV 2) (blkOk_by (own := [("one", 5)]) (N := ["row", "names", "pairs", "heavy", "slant", "one", "total"]) (sc := defScope sDue) (by decide +kernel))
            (fun _ _ _ _ _ => pg_name (i := 5) scDue.nd rfl (Or.inl rfl)) (fun _ _ _ _ _ => pts_nil) (fun _ _ _ _ _ => pe_ix (r := rIxT K) ix_tup (pv 5) pe_int (fun _ _ => rfl))) (pa_cons pe_int pa_nil)))))
        (pw_or (pt_not (pt_val (pe_call GW hr1 rfl T.gW T.kW bW .nil pass0 (pa_cons (pv 3) (pa_cons pe_int (pa_cons pe_int pa_nil))))))
        (pw_or1 (pt_not (pt_val (pe_call GW hr1 rfl T.gW T.kW bW .nil pass0 (pa_cons (pv 4) (pa_cons pe_int (pa_cons pe_int pa_nil)))))))))) (pss_one (ps_ret pe_bl)) pss_nil)
      (pss_cons (ps_set (i := 6) scDue.nd rfl (Or.inl rfl) pe_int)
      (pss_cons (ps_for PassesOwn.never rfl (pi_seqV 2) (pg_name (i := 5) scDue.nd rfl (Or.inl rfl)) (pss_one (ps_set (i := 6) scDue.nd rfl (Or.inl rfl) (pe_op op_mul (pv 6) (pe_op op_add (pe_op op_mul pe_int (pv 4)) pe_int)))))
      (pss_one (ps_ret (pe_cmpR op_le (pv 6) pe_int (nomark _))))))))), ?_⟩
    refine ⟨_, rfl, r, _, rfl, hrow, rfl, _, _, rfl, _, _, rfl, _, _, rfl, _, _, rfl, rfl, ?_⟩
    refine ⟨_, rfl, vN, dN, 8, rfl, by decide, hN, oN, fun H1 s1 => ⟨_, rfl, ?_⟩⟩
    rw [unlike8]
    cases cT : thingsD dN
    · refine iteT ?_
      have := k H1 s1
      rw [yd_t cT] at this
      exact this
    refine iteF ?_
    refine ⟨_, rfl, by decide +kernel, fun p hp => ⟨vP, p, [.ty "list", .ty "tuple"], _, _, _, rfl, upd_same, .cons (.ty _) (.cons (.ty _) .nil), (hP.same (s1.trans (Same.new hp))).tyX, k_seq dP, _, rfl, ?_⟩⟩
    have s2 : Same H (upd H1 p (.tup [.ty "list", .ty "tuple"])) := s1.trans (Same.new hp)
    generalize upd H1 p (.tup [.ty "list", .ty "tuple"]) = H2 at s2
    cases e_ : seqOf dP with
    | none =>
      refine iteT ?_
      have := k H2 s2
      rw [yd_b (show beamsD dP = false by unfold beamsD; rw [e_])] at this
      exact this
    | some ds =>
      refine iteF ?_
      obtain ⟨a, xs, rfl, hx, ha⟩ := Dx.sq hP e_
      have hl := hx.len
      obtain ⟨J, S, wk, hS⟩ := sq_walk (K := K) ha
      obtain ⟨h1000, hok⟩ := oP ds e_
      refine ⟨a, xs, J, S, rfl, wk, wk.stay s2 hS, for_wk wk (fun i σ H' => Same H H' ∧ (∃ z, σ = [some (.ref r), some vN, some (.ref a), some vH, some vS, z, none]) ∧ (ds.take i).all beamD = true) ⟨s2, ⟨none, rfl⟩, rfl⟩ (fun i σ H' _ h => wk.stay h.1 hS) ?_ ?_⟩
      · rintro i y σ H' hi ⟨sm, ⟨z, rfl⟩, hall⟩
        obtain ⟨e, he, hy⟩ := hx.get hi
        have hem := List.mem_of_getElem? he
        have bad : beamD e = false → Q (.bl false) H' := fun hb => by
          have := k H' sm
          rw [yd_b (not_beams e_ hem hb)] at this
          exact this
        have more : beamD e = true → (ds.take (i + 1)).all beamD = true := fun hb => by
          rw [List.take_succ, he, List.all_append, hall, Option.toList_some, List.all_cons, hb]
          rfl
        have hy' := hy.same sm
        refine ⟨_, rfl, y, _, _, _, _, rfl, .ty "tuple", hy'.tyX, kit_ty (k_tuple e), _, rfl, ?_⟩
        cases hy' with
        | tup g1 g2 =>
          rename_i q zs es
          refine iteF ?_
          have hlen := g2.len
          refine ⟨_, rfl, q, zs, rfl, .inr (SqT.of g1), rfl, _, rfl, ?_⟩
          match es, zs, g2 with
          | [], _, .nil => refine iteT ?_; exact bad rfl
          | [_], _, .cons _ .nil => refine iteT ?_; exact bad rfl
          | d1 :: d2 :: d3 :: rr, _, .cons _ (.cons _ (.cons _ t)) =>
            rw [show (!decide (V.int _ = V.int 2)) = true from by
              rw [dec_int, Bool.not_eq_true']
              refine beq_eq_false_iff_ne.mpr ?_
              simp only [List.length_cons]
              omega]
            refine iteT ?_
            exact bad rfl
          | [d1, d2], _, .cons (v := v1) h1 (.cons (v := v2) h2 .nil) =>
            refine iteF ?_
            refine ⟨_, rfl, q, _, _, _, rfl, rfl, SqT.of g1, rfl, _, rfl, v2, d2, _, _, rfl, h2, _, rfl, ?_⟩
            cases c : isNumD (-5) 5 d2
            · refine iteT ?_
              exact bad (by show (isNumD (-5) 5 d2 && !isNumD 0 0 d2) = false; rw [c]; rfl)
            · refine iteF ?_
              obtain ⟨j, rfl, j0, j1⟩ := isNumD_int c
              cases h2.int_eq
              refine ⟨_, rfl, q, _, _, _, rfl, rfl, SqT.of g1, rfl, rfl, _, rfl, ?_⟩
              rw [dec_int]
              have ej : (j == 0) = isNumD 0 0 (.int j) := by
                unfold isNumD
                rw [Bool.eq_iff_iff]
                simp
                omega
              cases cj : j == 0
              · refine iteF ?_
                refine ⟨sm, ⟨_, rfl⟩, more ?_⟩
                show (isNumD (-5) 5 (.int j) && !isNumD 0 0 (.int j)) = true
                rw [c, ← ej, cj]; rfl
              · refine iteT ?_
                refine bad ?_
                show (isNumD (-5) 5 (.int j) && !isNumD 0 0 (.int j)) = false
                rw [c, ← ej, cj]; rfl
        | non => refine iteT ?_; exact bad rfl
        | bl b => refine iteT ?_; exact bad rfl
        | int y => refine iteT ?_; exact bad rfl
        | str y => refine iteT ?_; exact bad rfl
        | lst a b => refine iteT ?_; exact bad rfl
        | dct a b => refine iteT ?_; exact bad rfl
      · rintro σ H3 ⟨s3, ⟨z, rfl⟩, hall⟩
        rw [hl, List.take_length] at hall
        have pr : ∀ e ∈ ds, beamD e = true := List.all_eq_true.mp hall
        have hS3 := wk.stay s3 hS
        refine ⟨a, xs, J, S, rfl, wk, hS3, fun D hD => lc_wk wk (fun i H' => Same H3 H' ∧ ∃ vs, H' D = some (.lst vs) ∧ DxAll H3 vs ((ds.take i).map fstD)) ⟨Same.new hD, [], upd_same, .nil⟩ (fun i H' _ h' => wk.stay h'.1 hS3) ?_ ?_⟩
        · rintro i y H' hi ⟨sm, vs, hv, hvd⟩
          obtain ⟨e, he, hy⟩ := hx.get hi
          have hi' : i < ds.length := (List.getElem?_eq_some_iff.mp he).1
          obtain ⟨p, v1, v2, d1, st, rfl, hp, rfl, h1, rfl, _⟩ := Dx.pair (hy.same s3) (pr e (List.mem_of_getElem? he))
          refine ⟨rfl, ?_⟩
          refine yes ?_
          have hvl := hvd.len
          refine ⟨_, rfl, p, _, _, _, rfl, rfl, SqT.of (sm _ _ hp), rfl, _, hv, ?_, fun b o z => ?_, _, upd_same, ?_⟩
          · rw [hvl, List.length_map, List.length_take]; exact Nat.lt_of_le_of_lt (show min i ds.length ≤ 1000 by omega) (by decide)
          · rw [upd_ne (ne_of_none z hD)]; exact sm _ _ z
          · rw [List.take_succ, he]
            simp only [Option.toList_some, List.map_append, List.map_cons, List.map_nil]
            exact hvd.snoc h1
        · rintro H4 ⟨s4, vs, hv, hvd⟩
          rw [hl, List.take_length] at hvd
          refine ⟨_, .list (ds.map fstD), 3, rfl, by decide, .lst hv (hvd.same s4), fun es q => ?_, fun H5 s5 => ⟨_, rfl, ?_⟩⟩
          · cases q
            refine ⟨by rw [List.length_map]; exact h1000, fun e he => ?_⟩
            obtain ⟨z, hz, rfl⟩ := List.mem_map.mp he
            exact hok z hz
          have s05 := (s3.trans s4).trans s5
          rw [← beams_of e_ hall]
          cases cB : beamsD dP
          · refine iteT ?_
            have := k H5 s05
            rw [yd_b cB] at this
            exact this
          refine iteF ?_
          refine ⟨_, rfl, vH, dH, _, _, rfl, hH.same s05, _, rfl, ?_⟩
          cases cM : isNumD 1 100 dH
          · refine iteT ?_
            have := k H5 s05
            rw [yd_m cM] at this
            exact this
          refine iteF ?_
          refine ⟨_, rfl, vS, dS, _, _, rfl, hS_.same s05, _, rfl, ?_⟩
          cases cL : isNumD 0 9 dS
          · refine iteT ?_
            have := k H5 s05
            rw [yd_l cL] at this
            exact this
          refine iteF ?_
          obtain ⟨l, rfl, l0, l9⟩ := isNumD_int cL
          cases hS_.int_eq
          obtain ⟨ds', e2, _, b3, _⟩ := beamsD_seq cB
          rw [e_] at e2
          cases e2
          refine ⟨a, xs, J, S, rfl, wk, wk.stay s05 hS, for_wk wk (fun i σ H' => H' = H5 ∧ ∃ z, σ = [some (.ref r), some vN, some (.ref a), some vH, some (.int l), z, some (.int ((2 * l + 1) ^ i))]) ⟨rfl, z, by rw [Int.pow_zero]; rfl⟩ (fun i σ H' _ h => by rw [h.1]; exact wk.stay s05 hS) ?_ ?_⟩
          · rintro i y σ H' hi ⟨rfl, z, rfl⟩
            refine ⟨_, rfl, _, rfl, _, _, rfl, rfl, .inl ⟨by decide, by decide⟩, _, _, rfl, rfl, _, _, rfl, rfl, .inr ⟨by omega, by omega⟩, rfl, some y, ?_⟩
            rw [Int.pow_succ]
            rfl
          · rintro σ H' ⟨rfl, z, rfl⟩
            refine ⟨_, rfl, _, _, rfl, rfl, ?_⟩
            have := k H' s05
            have ey : yardD dN dP dH (.int l) = fewN ds.length l := by
              unfold yardD fewD
              rw [cT, cB, cM, cL, e_]
              rfl
            rw [ey, ← hl] at this
            exact this
end
end L2.K01
/-! K01m -/
set_option Elab.async false
set_option linter.all false
set_option maxRecDepth 100000
set_option maxHeartbeats 8000000
namespace L2.Wb
open PySem PySem.Spec PyProof.Rows
theorem keptMono {N M : Addr → Prop} {H H' : Hp} (h : ∀ b, N b → M b) (k : Kept N H H') : Kept M H H' := fun b o n e => k b o (fun z => n (h b z)) e
theorem cutMono {N M : Addr → Prop} {H : Hp} (h : ∀ b, N b → M b) : Same (cut M H) (cut N H) := fun b o e => by
  obtain ⟨h1, h2⟩ := cut_in e
  rw [cut_of fun z => h1 (h b z)]
  exact h2
theorem cutUpd {N : Addr → Prop} {H : Hp} {b : Addr} {o : HO} (h : H b = none) : Same (cut N H) (cut N (upd H b o)) := Kept.cut (Same.kept (Same.new h))
theorem cutAt {N : Addr → Prop} {H : Hp} {b : Addr} {o : HO} (hn : ¬ N b) (h : H b = some o) : cut N H b = some o := by rw [cut_of hn]; exact h
end L2.Wb
namespace L2.K01
open PySem PySem.Spec PyProof.Rows L2.Wb
abbrev sParts : Stmt := top 26
def pairD (p : Str × Int) : PyData := .tuple [.str p.1, .int p.2]
def rowD (ns : List Str) (prs : List (Str × Int)) (h s : Int) : PyData := .list [.list (ns.map PyData.str), .list (prs.map pairD), .int h, .int s]
/-- addresses of things that stand, the state's among them -/
def Dom (st gl cl : Addr) (H : Hp) (N : Addr → Prop) : Prop := (∀ b, N b → ∃ o, H b = some o) ∧ ∀ b, N3 st gl cl b → N b
theorem Dom.new {st gl cl b : Addr} {H : Hp} {N : Addr → Prop} (d : Dom st gl cl H N) (h : H b = none) : ¬ N b := fun z => by
  obtain ⟨o, e⟩ := d.1 b z
  rw [h] at e; cases e
structure GoodP (ns : List Str) (prs : List (Str × Int)) (h s : Int) : Prop where
  n1 : 1 ≤ ns.length
  n8 : ns.length ≤ 8
  nn : ∀ x ∈ ns, isNameS x = true
  p1 : 1 ≤ prs.length
  p3 : prs.length ≤ 3
  pn : ∀ p ∈ prs, isNameS p.1 = true ∧ -5 ≤ p.2 ∧ p.2 ≤ 5
  h0 : 0 ≤ h ∧ h ≤ 100
  s0 : 0 ≤ s ∧ s ≤ 9
def spParts : Sp := fun vs H Q _ => ∃ (st gl cl : Addr) (n : Nat), vs = [.ref st] ∧ LS st gl cl n H ∧ n ≤ 800000 ∧
  ∀ (r : Addr) (H' : Hp) (ns : List Str) (prs : List (Str × Int)) (h s : Int), H r = none → LS st gl cl (n + 60) H' → Kept (N3 st gl cl) H H' → (∀ N, Dom st gl cl H N → Dx (cut N H') (.ref r) (rowD ns prs h s)) → GoodP ns prs h s → Q (.ref r) H'
structure TxtP (K : PySem.W.Frag) (mg : Str → Option Value) (fN fP fL : Addr) : Prop where
  t : TxtN K mg fN fP
  gL : mg "_law_names" = some (.ref fL)
  kL : PySem.W.keepIn K (.ref fL) = true
theorem strs_dx {H : Hp} : ∀ zs : List Str, DxAll H (zs.map V.str) (zs.map PyData.str)
  | [] => .nil
  | z :: r => .cons (.str z) (strs_dx r)
theorem keptFree {N : Addr → Prop} {H H' : Hp} {b : Addr} (k : Kept N H H') (n : ¬ N b) (h : H' b = none) : H b = none := by
  cases q : H b with
  | none => rfl
  | some o =>
    have := k _ _ n q
    rw [h] at this; cases this
section
variable {P : Program} {w : World} {K : PySem.W.Frag} {mg : Str → Option Value} {base : Heap} {fN fP fL : Addr} {dN dP dL : FuncData}
theorem scParts : FnScope ["state", "some", "pairs", "heavy", "name"] ["state"] (defScope sParts) := ⟨rfl, rfl, rfl, by decide +kernel, rfl, by decide +kernel, by decide +kernel⟩
theorem ok_parts {f : Addr} {fd : FuncData} (F : Fun K "_law_parts" "_law_parts" sParts f fd) (T : TxtP K mg fN fP fL) (GN : FnOk P w K mg base CX0 1 fN dN ["state", "size"] spNext) (bN : Binds K dN ["state", "size"] []) (GP : FnOk P w K mg base CX0 2 fP dP ["state", "some"] (spPick K)) (bP : Binds K dP ["state", "some"] [])
    (GL : FnOk P w K mg base CX0 3 fL dL ["state", "many"] spLNames) (bL : Binds K dL ["state", "many"] []) : FnOk P w K mg base CX0 4 f fd ["state"] spParts := by
  refine F.ok scParts (fun vs H Q E h => ?_) (fun cdv A outer s H vs Q E hr h => ?_)
  · obtain ⟨_, _, _, _, rfl, _⟩ := h; rfl
  · obtain ⟨st, gl, cl, n, rfl, hL, hn, k⟩ := h
    have hr1 : Room 1 _ := hr.mono (by decide)
    have hr2 : Room 2 _ := hr.mono (by decide)
    refine ⟨_, pss_cons (ps_set (i := 1) scParts.nd rfl (Or.inl rfl) (pe_call GL hr rfl T.gL T.kL bL .nil pass0 (pa_cons (pv 0) (pa_cons (pe_op op_add pe_int (pe_call GN hr1 rfl T.t.gN T.t.kN bN .nil pass0 (pa_cons (pv 0) (pa_cons pe_int pa_nil)))) pa_nil))))
      (pss_cons (ps_setLc (i := 2) (own := [("name", 4)]) (g := gName 4) (tt := tYes) rfl scParts.nd rfl rfl (by rfl) (pi_list (pv 1)) (blkOk_by (own := [("name", 4)]) (N := ["state", "some", "pairs", "heavy", "name"]) (sc := defScope sParts) (by decide +kernel))
        (fun _ _ _ _ _ => pg_name (i := 4) scParts.nd rfl (Or.inl rfl)) (fun _ _ _ _ _ => pts_nil)
        (fun _ _ _ _ _ => pe_tup (pa_cons (pv 4) (pa_cons (pe_call GP hr2 rfl T.t.gP T.t.kP bP .nil pass0 (pa_cons (pv 0) (pa_cons (pe_lst (pa_cons pe_int (pa_cons pe_int (pa_cons pe_int (pa_cons (pe_un un_neg pe_int) (pa_cons (pe_un un_neg pe_int) (pa_cons pe_int (pa_cons (pe_un un_neg pe_int) (pa_cons pe_int pa_nil))))))))) pa_nil))) pa_nil))))
      (pss_cons (ps_set (i := 3) scParts.nd rfl (Or.inl rfl) (pe_call GP hr2 rfl T.t.gP T.t.kP bP .nil pass0 (pa_cons (pv 0) (pa_cons (pe_lst (pa_cons pe_int (pa_cons pe_int (pa_cons pe_int (pa_cons pe_int (pa_cons pe_int pa_nil)))))) pa_nil))))
      (pss_one (ps_ret (pe_lst (pa_cons (pe_call GL hr rfl T.gL T.kL bL .nil pass0 (pa_cons (pv 0) (pa_cons (pe_op op_add pe_int (pe_call GN hr1 rfl T.t.gN T.t.kN bN .nil pass0 (pa_cons (pv 0) (pa_cons pe_int pa_nil)))) pa_nil))) (pa_cons (pv 2) (pa_cons (pv 3)
        (pa_cons (pe_call GP hr2 rfl T.t.gP T.t.kP bP .nil pass0 (pa_cons (pv 0) (pa_cons (pe_lst (pa_cons pe_int (pa_cons pe_int (pa_cons pe_int (pa_cons pe_int (pa_cons pe_int (pa_cons pe_int (pa_cons pe_int (pa_cons pe_int pa_nil))))))))) pa_nil))) pa_nil))))))))), ?_⟩
    refine ⟨_, rfl, _, rfl, st, gl, cl, n, 3, rfl, hL, by omega, by decide, by decide, fun r1 H1 a0 a1 L1 k1 => ?_⟩
    refine ⟨_, _, rfl, rfl, st, gl, cl, n + 1, 1 + r1, rfl, L1, by omega, by omega, by omega, fun l1 ns1 H2 e1 L2 k2 g2 c2 m2 => ?_⟩
    have nl1 : ¬ N3 st gl cl l1 := L1.new e1
    have K2 := k1.trans k2
    have fr : ∀ {H' : Hp} {b : Addr} {m : Nat}, LS st gl cl m H' → Kept (N3 st gl cl) H H' → H' b = none → H b = none := fun L k h => keptFree k (L.new h) h
    refine ⟨_, rfl, l1, rfl, ⟨_, SqL.of g2⟩, fun D hD => lc_list (K := K) (a := l1) (xs := ns1.map V.str) (fun i H' => LS st gl cl (n + 21 + i) H' ∧ Kept (N3 st gl cl) H2 H' ∧ ∃ (vs : List V) (prs : List (Str × Int)), H' D = some (.lst vs) ∧ vs.length = i ∧ prs.length = i ∧
      (∀ N, Dom st gl cl H N → DxAll (cut (fun b => N b ∨ b = D) H') vs (prs.map pairD)) ∧ ∀ p ∈ prs, isNameS p.1 = true ∧ -5 ≤ p.2 ∧ p.2 ≤ 5) ⟨(L2.same (Same.new hD)).mono (by omega), Same.kept (Same.new hD), [], [], upd_same, rfl, rfl, fun _ _ => .nil, by simp⟩ (fun i H' _ h => SqL.kept (SqL.of g2) (fun _ _ => nl1) h.2.1) ?_ ?_⟩
    · rintro i y H' hi ⟨L', k', vs, prs, hv, hvl, hpl, hdx, hgood⟩
      have hi3 : i < ns1.length := by have := (List.getElem?_eq_some_iff.mp hi).1; rwa [List.length_map] at this
      obtain ⟨x, hx, rfl⟩ : ∃ x, x ∈ ns1 ∧ y = .str x := by obtain ⟨x, hx, e⟩ := List.mem_map.mp (List.mem_of_getElem? hi); exact ⟨x, hx, e.symm⟩
      refine ⟨rfl, ?_⟩
      refine yes ?_
      have nD : ¬ N3 st gl cl D := L2.new hD
      refine ⟨_, rfl, _, rfl, _, rfl, _, rfl, _, rfl, by decide +kernel, fun e he => ⟨st, gl, cl, n + 21 + i, _, rfl, L'.same (Same.new he), by omega, .inl ⟨e, _, rfl, SqL.of upd_same, fun _ _ => L'.new he, by simp, by decide, fun j v H5 hj L5 k5 => ?_⟩⟩⟩
      obtain ⟨stp, rfl, t0, t1⟩ : ∃ z, v = V.int z ∧ -5 ≤ z ∧ z ≤ 5 := by
        have := List.mem_of_getElem? hj
        simp at this
        rcases this with h | h | h | h | h | h | h | h <;> exact ⟨_, h, by decide, by decide⟩
      have Ke : Kept (N3 st gl cl) H' H5 := (Same.kept (Same.new he)).trans k5
      refine ⟨show 2 ≤ sizeLine by decide +kernel, fun q hq => ?_⟩
      have hv5 : H5 D = some (.lst vs) := Ke _ _ nD hv
      have nDq : D ≠ q := ne_of_none hv5 hq
      have hDH : H2 D = none := hD
      have nq : ¬ N3 st gl cl q := L5.new hq
      have K5 := (K2.trans k').trans Ke
      refine ⟨vs, by rw [upd_ne nDq]; exact hv5, by rw [hvl]; exact Nat.lt_trans hi3 (by rw [c2]; exact Nat.lt_of_le_of_lt (show (1 + r1).toNat ≤ 3 by omega) (by decide)), (L5.upd nq).upd nD, keptNew (keptNew (k'.trans Ke) (keptFree (k'.trans Ke) nq hq)) hDH, vs ++ [.ref q], prs ++ [(x, stp)], upd_same, by rw [List.length_append, hvl]; rfl, by rw [List.length_append, hpl]; rfl, fun N dN => ?_, fun p hp => ?_⟩
      · have nN : ∀ b, N3 st gl cl b → (N b ∨ b = D) := fun b hb => .inl (dN.2 b hb)
        have ka : Kept (fun b => N b ∨ b = D) H' (upd (upd H5 q (.tup [.str x, .int stp])) D (.lst (vs ++ [.ref q]))) :=
          ((keptMono nN Ke).trans (Same.kept (Same.new hq))).trans (Kept.upd (.inr rfl))
        have qN : ¬ (N q ∨ q = D) := fun z => z.elim (dN.new (fr L5 K5 hq)) fun e => nDq e.symm
        rw [List.map_append]
        refine ((hdx N dN).same ka.cut).snoc ?_
        exact .tup (cutAt qN (by rw [upd_ne nDq.symm, upd_same])) (.cons (.str x) (.cons (.int stp) .nil))
      · rcases List.mem_append.mp hp with z | z
        · exact hgood p z
        · rw [List.mem_singleton.mp z]
          exact ⟨m2 x hx, t0, t1⟩
    · rintro H3 ⟨L3, k3, vs, prs, hv, hvl, hpl, hdx, hgood⟩
      rw [List.length_map] at L3 hvl hpl
      have nD : ¬ N3 st gl cl D := L2.new hD
      have K3 := K2.trans k3
      refine ⟨_, rfl, by decide +kernel, fun e he => ⟨st, gl, cl, _, _, rfl, L3.same (Same.new he), by omega, .inl ⟨e, _, rfl, SqL.of upd_same, fun _ _ => L3.new he, by simp, by decide, fun j v H5 hj L5 k5 => ?_⟩⟩⟩
      obtain ⟨hv_, rfl, h0, h1⟩ : ∃ z, v = V.int z ∧ 0 ≤ z ∧ z ≤ 100 := by
        have := List.mem_of_getElem? hj
        simp at this
        rcases this with h | h | h | h | h <;> exact ⟨_, h, by decide, by decide⟩
      have k35 : Kept (N3 st gl cl) H3 H5 := (Same.kept (Same.new he)).trans k5
      refine ⟨_, rfl, _, rfl, st, gl, cl, _, 8, rfl, L5, by omega, by decide, by decide, fun r6 H6 b0 b1 L6 k6 => ?_⟩
      refine ⟨_, _, rfl, rfl, st, gl, cl, _, 1 + r6, rfl, L6, by omega, by omega, by omega, fun l7 ns7 H7 e7 L7 k7 g7 c7 m7 => ?_⟩
      have nl7 : ¬ N3 st gl cl l7 := L6.new e7
      refine ⟨_, rfl, _, rfl, _, rfl, by decide +kernel, fun e9 he9 => ⟨st, gl, cl, _, _, rfl, L7.same (Same.new he9), by omega, .inl ⟨e9, _, rfl, SqL.of upd_same, fun _ _ => L7.new he9, by simp, by decide, fun j v H9 hj L9 k9 => ?_⟩⟩⟩
      obtain ⟨sl, rfl, s0, s1⟩ : ∃ z, v = V.int z ∧ 0 ≤ z ∧ z ≤ 9 := by
        have := List.mem_of_getElem? hj
        simp at this
        rcases this with h | h | h | h | h | h | h <;> exact ⟨_, h, by decide, by decide⟩
      refine ⟨show 4 ≤ sizeLine by decide +kernel, fun r hr_ => ?_⟩
      have k79 : Kept (N3 st gl cl) H7 H9 := (Same.kept (Same.new he9)).trans k9
      have K7 := ((K3.trans k35).trans k6).trans k7
      have K9 := K7.trans k79
      have rH : H r = none := fr L9 K9 hr_
      have nr : ¬ N3 st gl cl r := L9.new hr_
      refine k r _ ns7 prs hv_ sl rH ((L9.upd nr).mono (by omega)) (keptNew K9 rH) (fun N dN => ?_) ⟨by omega, by omega, m7, by omega, by omega, hgood, ⟨h0, h1⟩, ⟨s0, s1⟩⟩
      have nN : ∀ b, N3 st gl cl b → N b := dN.2
      have l7H : H l7 = none := fr L6 ((K3.trans k35).trans k6) e7
      have DH : H D = none := fr L2 K2 hD
      have last : Same H9 (upd H9 r (.lst [.ref l7, .ref D, .int hv_, .int sl])) := Same.new hr_
      refine .lst (cutAt (dN.new rH) upd_same) (.cons (.lst (cutAt (dN.new l7H) (last _ _ (k79 _ _ nl7 g7))) (strs_dx ns7)) (.cons (.lst (cutAt (dN.new DH) (last _ _ (k79 _ _ nD (k7 _ _ nD (k6 _ _ nD (k35 _ _ nD hv)))))) ?_) (.cons (.int _) (.cons (.int _) .nil))))
      have ka : Kept N H3 (upd H9 r (.lst [.ref l7, .ref D, .int hv_, .int sl])) := (keptMono nN ((((k35).trans k6).trans k7).trans k79)).trans (Same.kept last)
      exact ((hdx N dN).same (cutMono fun b hb => .inl hb)).same ka.cut
end
end L2.K01
/-! WbRead -/
set_option Elab.async false
set_option linter.all false
set_option maxRecDepth 100000
set_option maxHeartbeats 4000000
/-! Displays of data: what a term of rules makes, told as data, in a heap without some addresses. -/
namespace L2.Wb
open PySem PySem.Spec PyProof.Rows
theorem cutAt0 {N : Addr → Prop} {H : Hp} {b : Addr} {o : HO} (hn : ¬ N b) (h : H b = some o) : cut N H b = some o := by rw [cut_of hn]; exact h
theorem intEq0 {H : Hp} {x : V} {i : Int} (h : Dx H x (.int i)) : x = .int i := by cases h; rfl
/-- the addresses of N stand -/
def Std (N : Addr → Prop) (H : Hp) : Prop := ∀ b, N b → ∃ o, H b = some o
theorem Std.new {N : Addr → Prop} {H : Hp} {b : Addr} (d : Std N H) (h : H b = none) : ¬ N b := fun z => by
  obtain ⟨o, e⟩ := d b z
  rw [h] at e; cases e
theorem Std.same {N : Addr → Prop} {H H' : Hp} (d : Std N H) (e : Same H H') : Std N H' := fun b z => by
  obtain ⟨o, h⟩ := d b z
  exact ⟨o, e _ _ h⟩
theorem sameCut {N : Addr → Prop} {H H' : Hp} (e : Same H H') : Same (cut N H) (cut N H') := Kept.cut (Same.kept e)
/-- te makes d, from H on -/
def Rd (N : Addr → Prop) (te : TE) (σ : L2.St) (H : Hp) (d : PyData) : Prop := ∀ H1, Same H H1 → ∀ Q : VK, (∀ v H', Same H1 H' → Dx (cut N H') v d → Q v H') → te σ H1 Q
def RdA (N : Addr → Prop) (ta : TA) (σ : L2.St) (H : Hp) (ds : List PyData) : Prop := ∀ H1, Same H H1 → ∀ Q : List V → Hp → Prop, (∀ vs H', Same H1 H' → DxAll (cut N H') vs ds → Q vs H') → ta σ H1 Q
/-- the same, of a list that nobody else has -/
def RdL (N : Addr → Prop) (te : TE) (σ : L2.St) (H : Hp) (ds : List PyData) : Prop := ∀ H1, Same H H1 → ∀ Q : VK, (∀ a vs H', Same H1 H' → H1 a = none → H' a = some (.lst vs) → DxAll (cut N H') vs ds → Q (.ref a) H') → te σ H1 Q
section
variable {N : Addr → Prop} {σ : L2.St} {H : Hp}
theorem rd_var {i : Nat} {v : V} {d : PyData} (h : σ[i]? = some (some v)) (hd : Dx (cut N H) v d) : Rd N (tVar i) σ H d := fun H1 s Q k => ⟨v, h, k v H1 (Same.refl _) (hd.same (sameCut s))⟩
theorem rd_int {i : Int} : Rd N (tC (.int i)) σ H (.int i) := fun H1 s Q k => k _ H1 (Same.refl _) (.int i)
theorem rd_str {x : Str} : Rd N (tC (.str x)) σ H (.str x) := fun H1 s Q k => k _ H1 (Same.refl _) (.str x)
theorem rd_bl {b : Bool} : Rd N (tC (.bl b)) σ H (.bool b) := fun H1 s Q k => k _ H1 (Same.refl _) (.bl b)
theorem rd_non : Rd N (tC .non) σ H .none := fun H1 s Q k => k _ H1 (Same.refl _) .non
theorem rd_op {ta tb : TE} {r : R2} {d e f : PyData} (ha : Rd N ta σ H d) (hb : Rd N tb σ H e) (hr : ∀ H1 x y, Same H H1 → Dx (cut N H1) x d → Dx (cut N H1) y e → ∀ Q : VK, (∀ v H', Same H1 H' → Dx (cut N H') v f → Q v H') → r x y H1 Q) : Rd N (tOp r ta tb) σ H f :=
  fun H1 s Q k => ha H1 s _ fun x H2 s2 hx => hb H2 (s.trans s2) _ fun y H3 s3 hy => hr H3 x y ((s.trans s2).trans s3) (hx.same (sameCut s3)) hy Q fun v H4 s4 hv => k v H4 ((s2.trans s3).trans s4) hv
theorem rd_neg {ta : TE} {i : Int} (ha : Rd N ta σ H (.int i)) : Rd N (tUn (rU fun i => .int (-i)) ta) σ H (.int (-i)) := fun H1 s Q k => ha H1 s _ fun x H2 s2 hx => by
  cases intEq0 hx
  exact ⟨i, rfl, k _ H2 s2 (.int _)⟩
theorem rda_nil : RdA N tNil σ H [] := fun H1 s Q k => k _ H1 (Same.refl _) .nil
theorem rda_cons {ta : TE} {tr : TA} {d : PyData} {ds : List PyData} (h : Rd N ta σ H d) (hr : RdA N tr σ H ds) : RdA N (tCons ta tr) σ H (d :: ds) :=
  fun H1 s Q k => h H1 s _ fun v H2 s2 hv => hr H2 (s.trans s2) _ fun vs H3 s3 hvs => k _ H3 (s2.trans s3) (.cons (hv.same (sameCut s3)) hvs)
theorem rd_lst {ta : TA} {ds : List PyData} (hN : Std N H) (h : RdA N ta σ H ds) (hl : ds.length ≤ 1000) : Rd N (tLst ta) σ H (.list ds) := fun H1 s Q k => h H1 s _ fun vs H2 s2 hvs => ⟨by rw [hvs.len]; exact Nat.le_trans hl (by decide), fun p hp =>
  k _ _ (s2.trans (Same.new hp)) (.lst (cutAt0 ((hN.same (s.trans s2)).new hp) upd_same) (hvs.same (sameCut (Same.new hp))))⟩
theorem rdl_lst {ta : TA} {ds : List PyData} (h : RdA N ta σ H ds) (hl : ds.length ≤ 1000) : RdL N (tLst ta) σ H ds := fun H1 s Q k => h H1 s _ fun vs H2 s2 hvs => ⟨by rw [hvs.len]; exact Nat.le_trans hl (by decide), fun p hp =>
  k _ _ _ (s2.trans (Same.new hp)) (s2.free hp) upd_same (hvs.same (sameCut (Same.new hp)))⟩
theorem rd_tup {ta : TA} {ds : List PyData} (hN : Std N H) (h : RdA N ta σ H ds) (hl : ds.length ≤ 1000) : Rd N (tTup ta) σ H (.tuple ds) := fun H1 s Q k => h H1 s _ fun vs H2 s2 hvs => ⟨by rw [hvs.len]; exact Nat.le_trans hl (by decide), fun p hp =>
  k _ _ (s2.trans (Same.new hp)) (.tup (cutAt0 ((hN.same (s.trans s2)).new hp) upd_same) (hvs.same (sameCut (Same.new hp))))⟩
theorem rd_dict0 (hN : Std N H) : Rd N tDNewK σ H (.dict []) := fun H1 s Q k p hp => k _ _ (Same.new hp) (.dct (cutAt0 ((hN.same s).new hp) upd_same) .nil)
/-- {x: i} -/
theorem rd_dict1 {x : Str} {i : Int} (hN : Std N H) : Rd N (tDisp [(tC (.str x), tC (.int i))]) σ H (.dict [(.str x, .int i)]) := fun H1 s Q k p hp => by
  refine ⟨upd_same, [(.inr x, .int i)], rfl, show 1 ≤ 15 by decide, ?_⟩
  have nN := (hN.same s).new hp
  refine k _ _ (fun b o z => ?_) (.dct (cutAt0 nN upd_same) (.str (.int i) .nil))
  rw [upd_ne (ne_of_none z hp)]; exact Same.new hp _ _ z
def cutD (ds : List PyData) (lo hi : Option Int) : List PyData := (ds.drop (HT.sIx ds.length 0 lo)).take (HT.sIx ds.length ds.length hi - HT.sIx ds.length 0 lo)
theorem DxAll.cutD {H : Hp} {vs : List V} {ds : List PyData} (h : DxAll H vs ds) (lo hi : Option Int) : DxAll H (cutV vs lo hi) (Wb.cutD ds lo hi) := by
  unfold cutV Wb.cutD
  rw [h.len]
  exact (h.drop _).take _
theorem rd_sl {K : PySem.W.Frag} {te : TE} {tl th : TO} {lo hi : Option Int} {ds : List PyData} (hN : Std N H) (h : Rd N te σ H (.list ds)) (hl : ∀ H Q, Q lo H → tl σ H Q) (hh : ∀ H Q, Q hi H → th σ H Q) : Rd N (tSl (rSlL K) te tl th) σ H (.list (Wb.cutD ds lo hi)) := fun H1 s Q k =>
  h H1 s _ fun x H2 s2 hx => hl _ _ (hh _ _ (by
    cases hx with
    | lst h1 h2 => exact ⟨_, _, rfl, SqL.of (cut_in h1).2, fun p hp => k _ _ (s2.trans (Same.new hp)) (.lst (cutAt0 ((hN.same (s.trans s2)).new hp) upd_same) ((h2.cutD lo hi).same (sameCut (Same.new hp))))⟩))
theorem rd_cat {ta tb : TE} {ds es : List PyData} (hN : Std N H) (h1 : Rd N ta σ H (.list ds)) (h2 : Rd N tb σ H (.list es)) (hl : ds.length + es.length ≤ 1000) : Rd N (tOp rCat ta tb) σ H (.list (ds ++ es)) :=
  rd_op h1 h2 fun H1 x y s hx hy Q k => by
    cases hx with
    | lst a1 a2 =>
      cases hy with
      | lst b1 b2 => exact ⟨_, _, _, _, rfl, rfl, (cut_in a1).2, (cut_in b1).2, by rw [a2.len, b2.len]; exact Nat.le_trans hl (by decide), fun p hp => k _ _ (Same.new hp) (.lst (cutAt0 ((hN.same s).new hp) upd_same) ((a2.app b2).same (sameCut (Same.new hp))))⟩
theorem rd_rep {ta : TE} {d : PyData} {n : Nat} (hN : Std N H) (h1 : Rd N ta σ H (.list [d])) (hl : n ≤ 1000) : Rd N (tOp rRep ta (tC (.int n))) σ H (.list (List.replicate n d)) :=
  rd_op h1 rd_int fun H1 x y s hx hy Q k => by
    cases hy
    cases hx with
    | lst a1 a2 =>
      match a2 with
      | .cons (v := v) c1 .nil =>
        refine ⟨_, n, [v], rfl, rfl, (cut_in a1).2, by omega, by omega, by simp; exact Nat.le_trans hl (by decide), fun p hp => k _ _ (Same.new hp) (.lst (cutAt0 ((hN.same s).new hp) upd_same) ?_)⟩
        rw [Int.toNat_natCast]
        have e : ∀ m : Nat, DxAll (cut N (upd H1 p (.lst (List.replicate n [v]).flatten))) (List.replicate m [v]).flatten (List.replicate m d) := fun m => by
          induction m with
          | zero => exact .nil
          | succ m ih => exact .cons (c1.same (sameCut (Same.new hp))) ih
        exact e n
end
end L2.Wb
/-! K01n -/
set_option Elab.async false
set_option linter.all false
set_option maxRecDepth 100000
set_option maxHeartbeats 8000000
namespace L2.K01
open PySem PySem.Spec PyProof.Rows L2.Wb
/-! ### data that can be shown -/
structure Tm (w k : Nat) (d : PyData) : Prop where
  sh : d.showable = true
  le : d.leavesShort 60 = true
  wt : d.weight ≤ w
  dp : d.depth ≤ k
def tmB (w k : Nat) (d : PyData) : Bool := d.showable && (d.leavesShort 60 && (decide (d.weight ≤ w) && decide (d.depth ≤ k)))
theorem tm_of {w k : Nat} {d : PyData} (h : tmB w k d = true) : Tm w k d := by
  unfold tmB at h
  simp only [Bool.and_eq_true, decide_eq_true_eq] at h
  exact ⟨h.1, h.2.1, h.2.2.1, h.2.2.2⟩
theorem Tm.mono {w k w' k' : Nat} {d : PyData} (h : Tm w k d) (a : w ≤ w') (b : k ≤ k') : Tm w' k' d := ⟨h.sh, h.le, Nat.le_trans h.wt a, Nat.le_trans h.dp b⟩
theorem tm_all {w k : Nat} : ∀ {ds : List PyData}, (∀ d ∈ ds, Tm w k d) → PyData.showableAll ds = true ∧ PyData.leavesShortAll 60 ds = true ∧ PyData.weightAll ds ≤ ds.length * (w + 1) ∧ PyData.depthAll ds ≤ k
  | [], _ => ⟨rfl, rfl, Nat.zero_le _, Nat.zero_le _⟩
  | d :: r, h => by
    obtain ⟨a, b, c, e⟩ := tm_all fun x hx => h x (List.mem_cons_of_mem _ hx)
    have hd := h d List.mem_cons_self
    refine ⟨?_, ?_, ?_, ?_⟩
    · show (d.showable && PyData.showableAll r) = true
      rw [hd.sh, a]; rfl
    · show (d.leavesShort 60 && PyData.leavesShortAll 60 r) = true
      rw [hd.le, b]; rfl
    · show d.weight + 1 + PyData.weightAll r ≤ (r.length + 1) * (w + 1)
      have := hd.wt
      rw [Nat.succ_mul]
      omega
    · show max d.depth (PyData.depthAll r) ≤ k
      exact Nat.max_le.mpr ⟨hd.dp, e⟩
theorem tm_list {w k n : Nat} {ds : List PyData} (h : ∀ d ∈ ds, Tm w k d) (hn : ds.length ≤ n) : Tm (n * (w + 1)) (k + 1) (.list ds) := by
  obtain ⟨a, b, c, e⟩ := tm_all h
  exact ⟨a, b, Nat.le_trans c (Nat.mul_le_mul_right _ hn), Nat.succ_le_succ e⟩
theorem tm_tuple {w k n : Nat} {ds : List PyData} (h : ∀ d ∈ ds, Tm w k d) (hn : ds.length ≤ n) : Tm (n * (w + 1)) (k + 1) (.tuple ds) := by
  obtain ⟨a, b, c, e⟩ := tm_all h
  exact ⟨a, b, Nat.le_trans c (Nat.mul_le_mul_right _ hn), Nat.succ_le_succ e⟩
theorem tm_tl {w k : Nat} {ds : List PyData} : Tm w k (.list ds) ↔ Tm w k (.tuple ds) := ⟨fun h => ⟨h.sh, h.le, h.wt, h.dp⟩, fun h => ⟨h.sh, h.le, h.wt, h.dp⟩⟩
theorem name_short {x : Str} (h : isNameS x = true) : x.length ≤ 8 ∧ x.cps.toList.all (fun c => decide (c < 128)) = true := by
  unfold isNameS at h
  simp only [Bool.and_eq_true, decide_eq_true_eq] at h
  refine ⟨h.1.2, ?_⟩
  rw [List.all_eq_true] at h ⊢
  intro c hc
  have z := h.2 c hc
  unfold isLow at z
  simp at z ⊢
  omega
theorem tm_name {x : Str} (h : isNameS x = true) : Tm 10 0 (.str x) := by
  obtain ⟨a, b⟩ := name_short h
  refine ⟨rfl, ?_, ?_, Nat.le_refl _⟩
  · show (x.cps.toList.all fun c => decide (c < 16 ^ 8)) = true
    rw [List.all_eq_true] at b ⊢
    intro c hc
    have := of_decide_eq_true (b c hc)
    exact decide_eq_true (Nat.lt_trans this (by decide))
  · show x.cps.size ≤ 10
    have : x.length = x.cps.size := rfl
    omega
theorem oks_name {x : Str} (h : isNameS x = true) : OkS (.str x) := fun z e => by
  cases e
  exact ⟨by have := (name_short h).1; omega, namesS_short h⟩
def oksB : PyData → Bool
  | .str z => decide (z.length ≤ 1000) && PyData.strOk z
  | _ => true
theorem oks_of {d : PyData} (h : oksB d = true) : OkS d := fun z e => by
  subst e
  have h' : (decide (z.length ≤ 1000) && PyData.strOk z) = true := h
  rw [Bool.and_eq_true] at h'
  exact ⟨of_decide_eq_true h'.1, h'.2⟩
theorem tm_small : ∀ i : Nat, i < 120 → tmB 10 0 (.int ((i : Int) - 10)) = true := by decide +kernel
theorem tm_int {z : Int} (h0 : -10 ≤ z) (h1 : z < 110) : Tm 10 0 (.int z) := by
  have := tm_of (tm_small (z + 10).toNat (by omega))
  rwa [show (((z + 10).toNat : Nat) : Int) - 10 = z by omega] at this
/-! ### what is otherwise -/
def odds : List PyData := [.str "", .str "A", .str "abcdefghi", .str "a b", .none, .int 5, .list [.str "a"], .tuple [.str "a"], .str "a1", .bool true, .dict []]
def steps : List PyData := [.int 0, .int 6, .int (-6), .bool true, .none, .str "1", .int (10 ^ 30)]
def ends (o s : PyData) : List PyData := [.tuple [o, .int 1], .tuple [.str "q", s], .list [.str "q", .int 1], .tuple [.str "q", .int 1, .int 1], .tuple [.str "q"], o]
theorem odds_ok : ∀ o ∈ odds, tmB 10 1 o = true ∧ oksB o = true := by decide +kernel
theorem ends_ok : ∀ o ∈ odds, ∀ s ∈ steps, ∀ e ∈ ends o s, tmB 333 2 e = true ∧ oksB (fstD e) = true := by decide +kernel
def qs : List PyData := [.str "q", .str "qa", .str "qb", .str "qc", .str "qd", .str "qe", .str "qf", .str "qg", .str "qh"]
theorem qs_ok : ∀ o ∈ qs, tmB 10 1 o = true ∧ oksB o = true := by decide +kernel
/-- the names otherwise -/
def nameCs (ns : List PyData) (o : PyData) : List PyData := [.list (ns ++ cutD ns none (some 1)), .list (cutD ns none (some (-1)) ++ [o]), .list ([o] ++ ns), .list [], .none, .str "ab", .dict [(.str "a", .int 1)], .list (ns ++ List.replicate 8 (.str "x")), .list qs]
/-- the pairs otherwise -/
def pairCs (ps : List PyData) (e : PyData) : List PyData := [.list (ps ++ cutD ps none (some 1)), .list [], .none, .tuple [.str "q", .int 1], .dict [(.str "q", .int 1)], .list (ps ++ List.replicate 3 (.tuple [.str "qa", .int 1])), .list (cutD ps none (some (-1)) ++ [e]), .list (cutD ps none (some (-1)) ++ [e]), .list [.tuple [.str "q", .int 1], .tuple [.str "qa", .int 1], .tuple [.str "qb", .int 1], .tuple [.str "qc", .int 1]]]
def heavyCs : List PyData := [.int 0, .int (-1), .int 101, .bool true, .none, .str "5", .list [.int 5], .int (10 ^ 20)]
def slantCs : List PyData := [.int (-1), .int 10, .bool true, .bool false, .none, .str "3", .int (10 ^ 20)]
structure RowOk (dN dP : PyData) : Prop where
  qN : OkQ dN
  bP : OkB dP
  tN : Tm 400 6 dN
  tP : Tm 4000 6 dP
theorem mem_cutD {ds : List PyData} {lo hi : Option Int} {d : PyData} (h : d ∈ cutD ds lo hi) : d ∈ ds := by
  unfold Wb.cutD at h
  exact List.mem_of_mem_drop (List.mem_of_mem_take h)
theorem len_cutD (ds : List PyData) (lo hi : Option Int) : (cutD ds lo hi).length ≤ ds.length := by
  unfold Wb.cutD
  rw [List.length_take, List.length_drop]
  omega
theorem okq_list {ds : List PyData} (hl : ds.length ≤ 1000) (h : ∀ d ∈ ds, OkS d) : OkQ (.list ds) := fun es e => by cases e; exact ⟨hl, h⟩
theorem okb_list {ds : List PyData} (hl : ds.length ≤ 1000) (h : ∀ d ∈ ds, OkS (fstD d)) : OkB (.list ds) := fun es e => by cases e; exact ⟨hl, h⟩
/-- names: all of texts that are short -/
theorem nameCs_ok {ns : List PyData} {o : PyData} (hl : ns.length ≤ 8) (hn : ∀ d ∈ ns, Tm 10 1 d ∧ OkS d) (ho : o ∈ odds) : ∀ d ∈ nameCs ns o, OkQ d ∧ Tm 400 6 d := by
  have oo := odds_ok o ho
  have L : ∀ ds : List PyData, ds.length ≤ 17 → (∀ d ∈ ds, Tm 10 1 d ∧ OkS d) → OkQ (.list ds) ∧ Tm 400 6 (.list ds) := fun ds h1 h2 =>
    ⟨okq_list (by omega) fun d hd => (h2 d hd).2, (tm_list (fun d hd => (h2 d hd).1) h1).mono (by decide) (by decide)⟩
  have hx : Tm 10 1 (.str "x") ∧ OkS (.str "x") := ⟨tm_of (by decide +kernel), oks_of (by decide +kernel)⟩
  intro d hd
  unfold nameCs at hd
  simp only [List.mem_cons, List.not_mem_nil, or_false] at hd
  rcases hd with rfl | rfl | rfl | rfl | rfl | rfl | rfl | rfl | rfl
  · refine L _ (by have := len_cutD ns none (some 1); rw [List.length_append]; omega) fun d hd => ?_
    rcases List.mem_append.mp hd with z | z
    · exact hn d z
    · exact hn d (mem_cutD z)
  · refine L _ (by have := len_cutD ns none (some (-1)); rw [List.length_append, List.length_singleton]; omega) fun d hd => ?_
    rcases List.mem_append.mp hd with z | z
    · exact hn d (mem_cutD z)
    · rw [List.mem_singleton.mp z]; exact ⟨tm_of oo.1, oks_of oo.2⟩
  · refine L _ (by rw [List.length_append, List.length_singleton]; omega) fun d hd => ?_
    rcases List.mem_append.mp hd with z | z
    · rw [List.mem_singleton.mp z]; exact ⟨tm_of oo.1, oks_of oo.2⟩
    · exact hn d z
  · exact L _ (by decide) (by simp)
  · exact ⟨fun _ e => (by cases e), tm_of (by decide +kernel)⟩
  · exact ⟨fun _ e => (by cases e), tm_of (by decide +kernel)⟩
  · exact ⟨fun _ e => (by cases e), tm_of (by decide +kernel)⟩
  · refine L _ (by rw [List.length_append, List.length_replicate]; omega) fun d hd => ?_
    rcases List.mem_append.mp hd with z | z
    · exact hn d z
    · rw [List.eq_of_mem_replicate z]; exact hx
  · exact L _ (by decide) fun d hd => ⟨tm_of (qs_ok d hd).1, oks_of (qs_ok d hd).2⟩
theorem pairCs_ok {ps : List PyData} {e : PyData} (hl : ps.length ≤ 3) (hn : ∀ d ∈ ps, Tm 333 2 d ∧ OkS (fstD d)) (he : Tm 333 2 e ∧ OkS (fstD e)) : ∀ d ∈ pairCs ps e, OkB d ∧ Tm 4000 6 d := by
  have L : ∀ ds : List PyData, ds.length ≤ 11 → (∀ d ∈ ds, Tm 333 2 d ∧ OkS (fstD d)) → OkB (.list ds) ∧ Tm 4000 6 (.list ds) := fun ds h1 h2 =>
    ⟨okb_list (by omega) fun d hd => (h2 d hd).2, (tm_list (fun d hd => (h2 d hd).1) h1).mono (by decide) (by decide)⟩
  have hx : Tm 333 2 (.tuple [.str "qa", .int 1]) ∧ OkS (fstD (.tuple [.str "qa", .int 1])) := ⟨tm_of (by decide +kernel), oks_of (by decide +kernel)⟩
  have h4 : ∀ d ∈ ([.tuple [.str "q", .int 1], .tuple [.str "qa", .int 1], .tuple [.str "qb", .int 1], .tuple [.str "qc", .int 1]] : List PyData), tmB 333 2 d = true ∧ oksB (fstD d) = true := by decide +kernel
  have E := L (cutD ps none (some (-1)) ++ [e]) (by have := len_cutD ps none (some (-1)); rw [List.length_append, List.length_singleton]; omega) fun d hd => by
    rcases List.mem_append.mp hd with z | z
    · exact hn d (mem_cutD z)
    · rw [List.mem_singleton.mp z]; exact he
  intro d hd
  unfold pairCs at hd
  simp only [List.mem_cons, List.not_mem_nil, or_false] at hd
  rcases hd with rfl | rfl | rfl | rfl | rfl | rfl | rfl | rfl | rfl
  · refine L _ (by have := len_cutD ps none (some 1); rw [List.length_append]; omega) fun d hd => ?_
    rcases List.mem_append.mp hd with z | z
    · exact hn d z
    · exact hn d (mem_cutD z)
  · exact L _ (by decide) (by simp)
  · exact ⟨fun _ e => (by cases e), tm_of (by decide +kernel)⟩
  · refine ⟨fun es e => ?_, tm_of (by decide +kernel)⟩
    cases e
    refine ⟨by decide, fun d hd => ?_⟩
    simp only [List.mem_cons, List.not_mem_nil, or_false] at hd
    rcases hd with rfl | rfl <;> exact fun z e => by cases e
  · exact ⟨fun _ e => (by cases e), tm_of (by decide +kernel)⟩
  · refine L _ (by rw [List.length_append, List.length_replicate]; omega) fun d hd => ?_
    rcases List.mem_append.mp hd with z | z
    · exact hn d z
    · rw [List.eq_of_mem_replicate z]; exact hx
  · exact E
  · exact E
  · exact L _ (by decide) fun d hd => ⟨tm_of (h4 d hd).1, oks_of (h4 d hd).2⟩
theorem good_names {ns : List Str} (h : ∀ x ∈ ns, isNameS x = true) : ∀ d ∈ ns.map PyData.str, Tm 10 1 d ∧ OkS d := fun d hd => by
  obtain ⟨x, hx, rfl⟩ := List.mem_map.mp hd
  exact ⟨(tm_name (h x hx)).mono (by decide) (by decide), oks_name (h x hx)⟩
theorem good_pairs {prs : List (Str × Int)} (h : ∀ p ∈ prs, isNameS p.1 = true ∧ -5 ≤ p.2 ∧ p.2 ≤ 5) : ∀ d ∈ prs.map pairD, Tm 333 2 d ∧ OkS (fstD d) := fun d hd => by
  obtain ⟨p, hp, rfl⟩ := List.mem_map.mp hd
  obtain ⟨h1, h2, h3⟩ := h p hp
  refine ⟨(tm_tuple (w := 10) (k := 0) (n := 2) (fun d hd => ?_) (Nat.le_refl _)).mono (by decide) (by decide), oks_name h1⟩
  simp only [List.mem_cons, List.not_mem_nil, or_false] at hd
  rcases hd with rfl | rfl
  · exact tm_name h1
  · exact tm_int (by omega) (by omega)
theorem GoodP.row {ns : List Str} {prs : List (Str × Int)} {h s : Int} (g : GoodP ns prs h s) : RowOk (.list (ns.map PyData.str)) (.list (prs.map pairD)) := by
  refine ⟨okq_list (by rw [List.length_map]; have := g.n8; omega) fun d hd => (good_names g.nn d hd).2, okb_list (by rw [List.length_map]; have := g.p3; omega) fun d hd => (good_pairs g.pn d hd).2, ?_, ?_⟩
  · exact (tm_list (n := 8) (fun d hd => (good_names g.nn d hd).1) (by rw [List.length_map]; exact g.n8)).mono (by decide) (by decide)
  · exact (tm_list (n := 3) (fun d hd => (good_pairs g.pn d hd).1) (by rw [List.length_map]; exact g.p3)).mono (by decide) (by decide)
end L2.K01
/-! K01o -/
set_option Elab.async false
set_option linter.all false
set_option maxRecDepth 100000
set_option maxHeartbeats 8000000
namespace L2.K01
open PySem PySem.Spec PyProof.Rows L2.Wb
abbrev sSpoilt : Stmt := top 27
/-- a list that nobody else has: its items ahead of it -/
def RdM (N : Addr → Prop) (te : TE) (σ : L2.St) (H : Hp) (ds : List PyData) : Prop := ∀ H1, Same H H1 → ∀ Q : VK, (∀ a vs H2, Same H1 H2 → H2 a = none → DxAll (cut N H2) vs ds → Q (.ref a) (upd H2 a (.lst vs))) → te σ H1 Q
theorem rdm_lst {N : Addr → Prop} {σ : L2.St} {H : Hp} {ta : TA} {ds : List PyData} (h : RdA N ta σ H ds) (hl : ds.length ≤ 1000) : RdM N (tLst ta) σ H ds := fun H1 s Q k => h H1 s _ fun vs H2 s2 hvs => ⟨by rw [hvs.len]; exact Nat.le_trans hl (by decide), fun p hp => k _ _ _ s2 hp hvs⟩
theorem rd_pick {K : PySem.W.Frag} {st gl cl : Addr} {n : Nat} {N : Addr → Prop} {σ : L2.St} {H : Hp} {te : TE} {ds : List PyData} {Q : VK} (h0 : σ[0]? = some (some (.ref st))) (hL : LS st gl cl n H) (hn : n ≤ 1000000) (h : RdM N te σ H ds) (hne : ds ≠ []) (hl : ds.length ≤ 1000) (h3 : ∀ b, N3 st gl cl b → N b)
    (k : ∀ d v H', d ∈ ds → LS st gl cl (n + 1) H' → Kept (N3 st gl cl) H H' → Dx (cut N H') v d → Q v H') : tCall (spPick K) [] E0 (tCons (tVar 0) (tCons te tNil)) σ H Q := by
  refine ⟨_, h0, h H (Same.refl _) _ fun a vs H2 s ha hvs => ?_⟩
  have s' : Same H (upd H2 a (.lst vs)) := s.trans (Same.new ha)
  refine ⟨st, gl, cl, n, _, rfl, hL.same s', hn, .inl ⟨a, vs, rfl, SqL.of upd_same, fun _ _ => hL.new (s.free ha), fun e => ?_, by rw [hvs.len]; exact hl, fun i v H5 hi L5 k5 => ?_⟩⟩
  · rw [e] at hvs; cases hvs; exact hne rfl
  · obtain ⟨d, hd, hx⟩ := hvs.get hi
    have kk : Kept (N3 st gl cl) H2 H5 := (Same.kept (Same.new ha)).trans k5
    exact k d v H5 (List.mem_of_getElem? hd) L5 ((Same.kept s).trans kk) (hx.same (keptMono h3 kk).cut)
theorem Dom.kept {st gl cl : Addr} {m : Nat} {H H' : Hp} {N : Addr → Prop} (d : Dom st gl cl H N) (k : Kept (N3 st gl cl) H H') (L : LS st gl cl m H') : Dom st gl cl H' N := by
  refine ⟨fun b hb => ?_, d.2⟩
  by_cases c : N3 st gl cl b
  · exact L.has c
  · obtain ⟨o, e⟩ := d.1 b hb
    exact ⟨o, k b o c e⟩
theorem po1 {i : Int} {σ : L2.St} : ∀ H Q, Q (some i) H → tPart (tC (.int i)) σ H Q := fun H Q h => ⟨i, rfl, h⟩
theorem poN {i : Int} {σ : L2.St} : ∀ H Q, Q (some (-i)) H → tPart (tUn (rU fun i => .int (-i)) (tC (.int i))) σ H Q := fun H Q h => ⟨i, rfl, -i, rfl, h⟩
theorem po0 {σ : L2.St} : ∀ H Q, Q none H → tNoPart σ H Q := fun H Q h => h
theorem seq_lst {N : Addr → Prop} {σ : L2.St} {H : Hp} {ta : TA} {ds : List PyData} {i : Nat} {u : TS} {D : Ends} (h : RdA N ta σ H ds) (hl : ds.length ≤ 1000) (k : ∀ a vs H2, Same H H2 → H2 a = none → DxAll (cut N H2) vs ds → u D (σ.set i (some (.ref a))) (upd H2 a (.lst vs))) : tSeq (tAsg (tLst ta) (gName i)) u D σ H :=
  rdm_lst h hl H (Same.refl _) (fun x H1 => gName i x σ H1 (u D)) fun a vs H2 s ha hv => k a vs H2 s ha hv
theorem seq_cat {N : Addr → Prop} {σ : L2.St} {H : Hp} {ta tb : TE} {ds es : List PyData} {i : Nat} {u : TS} {D : Ends} (hN : Std N H) (h1 : Wb.Rd N ta σ H (.list ds)) (h2 : Wb.Rd N tb σ H (.list es)) (hl : ds.length + es.length ≤ 1000) (k : ∀ v H', Same H H' → Dx (cut N H') v (.list (ds ++ es)) → u D (σ.set i (some v)) H') : tSeq (tAsg (tOp rCat ta tb) (gName i)) u D σ H :=
  rd_cat hN h1 h2 hl H (Same.refl _) (fun x H1 => gName i x σ H1 (u D)) fun v H' s x => k v H' s x
theorem seq_app {K : PySem.W.Frag} {N : Addr → Prop} {σ : L2.St} {H : Hp} {ta : TA} {ds : List PyData} {i : Nat} {u : TS} {D : Ends} {a : Addr} {vs : List V} (h0 : σ[i]? = some (some (.ref a))) (ha : H a = some (.lst vs)) (hl : vs.length ≤ 1000) (h : RdA N ta σ H ds) (hd : ds.length ≤ 1000)
    (k : ∀ b ws H2, Same H H2 → H2 b = none → DxAll (cut N H2) ws ds → u D σ (upd (upd H2 b (.lst ws)) a (.lst (vs ++ [.ref b])))) : tSeq (tDrop (tBM K "list" rAppend (tVar i) (tCons (tLst ta) tNil))) u D σ H := by
  refine ⟨_, h0, .inl ⟨rfl, _, SqL.of ha⟩, ?_⟩
  refine rdm_lst h hd H (Same.refl _) _ fun b ws H2 s hb hw => ?_
  refine ⟨a, vs, .ref b, rfl, rfl, ?_, Nat.lt_of_le_of_lt hl (by decide +kernel), k b ws H2 s hb hw⟩
  exact (s.trans (Same.new hb)) _ _ ha
def spSpoilt : Sp := fun vs H Q _ => ∃ (st gl cl r : Addr) (n : Nat) (N : Addr → Prop) (ns : List Str) (prs : List (Str × Int)) (h s : Int), vs = [.ref st, .ref r] ∧ LS st gl cl n H ∧ n ≤ 800000 ∧ Dom st gl cl H N ∧ Dx (cut N H) (.ref r) (rowD ns prs h s) ∧ GoodP ns prs h s ∧
  ∀ (r' : Addr) (H' : Hp) (dN dP dH dS : PyData), LS st gl cl (n + 20) H' → Kept (N3 st gl cl) H H' → Dx (cut N H') (.ref r') (.list [dN, dP, dH, dS]) → RowOk dN dP → Tm 200 3 dH → Tm 200 3 dS → Q (.ref r') H'
section
variable {P : Program} {w : World} {K : PySem.W.Frag} {mg : Str → Option Value} {base : Heap} {fN fP : Addr} {dN dP : FuncData}
theorem scSpoilt : FnScope ["state", "row", "names", "pairs", "heavy", "slant", "way", "odd", "some", "step", "end"] ["state", "row"] (defScope sSpoilt) := ⟨rfl, rfl, rfl, by decide +kernel, rfl, by decide +kernel, by decide +kernel⟩
theorem ok_spoilt {f : Addr} {fd : FuncData} (F : Fun K "_law_spoilt" "_law_spoilt" sSpoilt f fd) (T : TxtN K mg fN fP) (GN : FnOk P w K mg base CX0 1 fN dN ["state", "size"] spNext) (bN : Binds K dN ["state", "size"] []) (GP : FnOk P w K mg base CX0 2 fP dP ["state", "some"] (spPick K)) (bP : Binds K dP ["state", "some"] []) :
    FnOk P w K mg base CX0 3 f fd ["state", "row"] spSpoilt := by
  refine F.ok scSpoilt (fun vs H Q E h => ?_) (fun cdv A outer s H vs Q E hr h => ?_)
  · obtain ⟨_, _, _, _, _, _, _, _, _, _, rfl, _⟩ := h; rfl
  · obtain ⟨st, gl, cl, r, n, N, ns, prs, hv, sv, rfl, hL, hn, hD, hrow, hg, k⟩ := h
    have hr1 : Room 1 _ := hr.mono (by decide)
    have hu := hu_of hr
    refine ⟨_, pss_cons (ps_asg (pv 1) (pg_lst rfl (pgs_cons (pg_name (i := 2) scSpoilt.nd rfl (Or.inl rfl)) (pgs_cons (pg_name (i := 3) scSpoilt.nd rfl (Or.inl rfl)) (pgs_cons (pg_name (i := 4) scSpoilt.nd rfl (Or.inl rfl)) (pgs_cons (pg_name (i := 5) scSpoilt.nd rfl (Or.inl rfl)) pgs_nil))))))
      (pss_cons (ps_set (i := 6) scSpoilt.nd rfl (Or.inl rfl) (pe_call GN hr1 rfl T.gN T.kN bN .nil pass0 (pa_cons (pv 0) (pa_cons pe_int pa_nil))))
      (pss_cons (ps_set (i := 7) scSpoilt.nd rfl (Or.inl rfl) (pe_call GP hr rfl T.gP T.kP bP .nil pass0 (pa_cons (pv 0) (pa_cons (pe_lst (pa_cons pe_str (pa_cons pe_str (pa_cons pe_str (pa_cons pe_str (pa_cons pe_non (pa_cons pe_int (pa_cons (pe_lst (pa_cons pe_str pa_nil)) (pa_cons (pe_tup (pa_cons pe_str pa_nil)) (pa_cons pe_str (pa_cons pe_bl (pa_cons pe_dnewK pa_nil)))))))))))) pa_nil))))
      (pss_cons (ps_if (pt_cmpR op_eq (pv 6) pe_int (nomark _))
        (pss_cons (ps_set (i := 8) scSpoilt.nd rfl (Or.inl rfl) (pe_lst (pa_cons (pe_op op_cat (pv 2) (pe_slice sl_list (pv 2) po_none (po_some pe_int)))
          (pa_cons (pe_op op_cat (pe_slice sl_list (pv 2) po_none (po_some (pe_un un_neg pe_int))) (pe_lst (pa_cons (pv 7) pa_nil)))
          (pa_cons (pe_op op_cat (pe_lst (pa_cons (pv 7) pa_nil)) (pv 2)) (pa_cons (pe_lst pa_nil) (pa_cons pe_non (pa_cons pe_str (pa_cons (pe_disp (pps_cons pe_str pe_int pps_nil) (by rfl) (by rfl) (by decide) (by decide))
          (pa_cons (pe_op op_cat (pv 2) (pe_op op_rep (pe_lst (pa_cons pe_str pa_nil)) pe_int)) pa_nil))))))))))
        (pss_cons (ps_expr (pe_bm PySem.F.plainAttrs_list PySem.F.slot_list_append PySem.F.type_list_append mt_append (pv 8) (pa_cons (pe_lst (pa_cons pe_str (pa_cons pe_str (pa_cons pe_str (pa_cons pe_str (pa_cons pe_str (pa_cons pe_str (pa_cons pe_str (pa_cons pe_str (pa_cons pe_str pa_nil)))))))))) pa_nil)))
        (pss_one (ps_ret (pe_lst (pa_cons (pe_call GP hr rfl T.gP T.kP bP .nil pass0 (pa_cons (pv 0) (pa_cons (pv 8) pa_nil))) (pa_cons (pv 3) (pa_cons (pv 4) (pa_cons (pv 5) pa_nil)))))))))
        pss_nil)
      (pss_cons (ps_if (pt_cmpR op_eq (pv 6) pe_int (nomark _))
        (pss_cons (ps_set (i := 9) scSpoilt.nd rfl (Or.inl rfl) (pe_call GP hr rfl T.gP T.kP bP .nil pass0 (pa_cons (pv 0) (pa_cons (pe_lst (pa_cons pe_int (pa_cons pe_int (pa_cons (pe_un un_neg pe_int) (pa_cons pe_bl (pa_cons pe_non (pa_cons pe_str (pa_cons (pe_op op_pow pe_int pe_int) pa_nil)))))))) pa_nil))))
        (pss_cons (ps_set (i := 10) scSpoilt.nd rfl (Or.inl rfl) (pe_call GP hr rfl T.gP T.kP bP .nil pass0 (pa_cons (pv 0) (pa_cons (pe_lst (pa_cons (pe_tup (pa_cons (pv 7) (pa_cons pe_int pa_nil))) (pa_cons (pe_tup (pa_cons pe_str (pa_cons (pv 9) pa_nil))) (pa_cons (pe_lst (pa_cons pe_str (pa_cons pe_int pa_nil)))
          (pa_cons (pe_tup (pa_cons pe_str (pa_cons pe_int (pa_cons pe_int pa_nil)))) (pa_cons (pe_tup (pa_cons pe_str pa_nil)) (pa_cons (pv 7) pa_nil))))))) pa_nil))))
        (pss_cons (ps_set (i := 8) scSpoilt.nd rfl (Or.inl rfl) (pe_lst (pa_cons (pe_op op_cat (pv 3) (pe_slice sl_list (pv 3) po_none (po_some pe_int))) (pa_cons (pe_lst pa_nil) (pa_cons pe_non (pa_cons (pe_tup (pa_cons pe_str (pa_cons pe_int pa_nil)))
          (pa_cons (pe_disp (pps_cons pe_str pe_int pps_nil) (by rfl) (by rfl) (by decide) (by decide)) (pa_cons (pe_op op_cat (pv 3) (pe_op op_rep (pe_lst (pa_cons (pe_tup (pa_cons pe_str (pa_cons pe_int pa_nil))) pa_nil)) pe_int))
          (pa_cons (pe_op op_cat (pe_slice sl_list (pv 3) po_none (po_some (pe_un un_neg pe_int))) (pe_lst (pa_cons (pv 10) pa_nil))) pa_nil)))))))))
        (pss_cons (ps_set (i := 8) scSpoilt.nd rfl (Or.inl rfl) (pe_op op_cat (pv 8) (pe_lst (pa_cons (pe_op op_cat (pe_slice sl_list (pv 3) po_none (po_some (pe_un un_neg pe_int))) (pe_lst (pa_cons (pv 10) pa_nil)))
          (pa_cons (pe_lst (pa_cons (pe_tup (pa_cons pe_str (pa_cons pe_int pa_nil))) (pa_cons (pe_tup (pa_cons pe_str (pa_cons pe_int pa_nil))) (pa_cons (pe_tup (pa_cons pe_str (pa_cons pe_int pa_nil))) (pa_cons (pe_tup (pa_cons pe_str (pa_cons pe_int pa_nil))) pa_nil))))) pa_nil)))))
        (pss_one (ps_ret (pe_lst (pa_cons (pv 2) (pa_cons (pe_call GP hr rfl T.gP T.kP bP .nil pass0 (pa_cons (pv 0) (pa_cons (pv 8) pa_nil))) (pa_cons (pv 4) (pa_cons (pv 5) pa_nil)))))))))))
        pss_nil)
      (pss_cons (ps_if (pt_cmpR op_eq (pv 6) pe_int (nomark _))
        (pss_one (ps_ret (pe_lst (pa_cons (pv 2) (pa_cons (pv 3) (pa_cons (pe_call GP hr rfl T.gP T.kP bP .nil pass0 (pa_cons (pv 0) (pa_cons (pe_lst (pa_cons pe_int (pa_cons (pe_un un_neg pe_int) (pa_cons pe_int (pa_cons pe_bl (pa_cons pe_non (pa_cons pe_str (pa_cons (pe_lst (pa_cons pe_int pa_nil)) (pa_cons (pe_op op_pow pe_int pe_int) pa_nil))))))))) pa_nil))) (pa_cons (pv 5) pa_nil)))))))
        pss_nil)
      (pss_one (ps_ret (pe_lst (pa_cons (pv 2) (pa_cons (pv 3) (pa_cons (pv 4) (pa_cons (pe_call GP hr rfl T.gP T.kP bP .nil pass0 (pa_cons (pv 0) (pa_cons (pe_lst (pa_cons (pe_un un_neg pe_int) (pa_cons pe_int (pa_cons pe_bl (pa_cons pe_bl (pa_cons pe_non (pa_cons pe_str (pa_cons (pe_op op_pow pe_int pe_int) pa_nil)))))))) pa_nil))) pa_nil)))))))))))), ?_⟩
    cases hrow with
    | lst h1 h2 =>
      match h2 with
      | .cons (v := vN) xN (.cons (v := vP) xP (.cons xH (.cons xS .nil))) =>
        cases xH; cases xS
        have good := hg.row
        have tmh : Tm 200 3 (.int hv) := (tm_int (by have := hg.h0; omega) (by have := hg.h0; omega)).mono (by decide) (by decide)
        have tms : Tm 200 3 (.int sv) := (tm_int (by have := hg.s0; omega) (by have := hg.s0; omega)).mono (by decide) (by decide)
        have fin : ∀ (v0 v1 v2 v3 : V) (d0 d1 d2 d3 : PyData) (H6 : Hp) (m : Nat), LS st gl cl m H6 → m ≤ n + 20 → Kept (N3 st gl cl) H H6 → Dx (cut N H6) v0 d0 → Dx (cut N H6) v1 d1 → Dx (cut N H6) v2 d2 → Dx (cut N H6) v3 d3 → RowOk d0 d1 → Tm 200 3 d2 → Tm 200 3 d3 →
            ([v0, v1, v2, v3].length ≤ sizeLine ∧ ∀ p, H6 p = none → Q (.ref p) (upd H6 p (.lst [v0, v1, v2, v3]))) := fun v0 v1 v2 v3 d0 d1 d2 d3 H6 m L6 hm k6 x0 x1 x2 x3 ok t2 t3 =>
          ⟨show 4 ≤ sizeLine by decide +kernel, fun p hp => by
            have sc := sameCut (N := N) (Same.new (o := .lst [v0, v1, v2, v3]) hp)
            exact k p _ d0 d1 d2 d3 ((L6.upd (L6.new hp)).mono hm) (keptNew k6 (keptFree k6 (L6.new hp) hp)) (.lst (cutAt ((hD.kept k6 L6).new hp) upd_same) (.cons (x0.same sc) (.cons (x1.same sc) (.cons (x2.same sc) (.cons (x3.same sc) .nil))))) ok t2 t3⟩
        refine ⟨_, rfl, r, _, rfl, SqL.of (cut_in h1).2, rfl, _, _, rfl, _, _, rfl, _, _, rfl, _, _, rfl, rfl, ?_⟩
        refine ⟨_, rfl, st, gl, cl, n, 4, rfl, hL, by omega, by decide, by decide, fun way H1 w0 w1 L1 k1 => ?_⟩
        have S1 : Std N H1 := (hD.kept k1 L1).1
        refine rd_pick (N := N) rfl L1 (by omega) (rdm_lst (rda_cons rd_str (rda_cons rd_str (rda_cons rd_str (rda_cons rd_str (rda_cons rd_non (rda_cons rd_int (rda_cons (rd_lst S1 (rda_cons rd_str rda_nil) (by decide)) (rda_cons (rd_tup S1 (rda_cons rd_str rda_nil) (by decide)) (rda_cons rd_str (rda_cons rd_bl (rda_cons (rd_dict0 S1) rda_nil))))))))))) (by decide)) (by simp) (by decide) hD.2 fun o vo H2 ho L2 k2 xo => ?_
        have ho' : o ∈ odds := ho
        have k12 := k1.trans k2
        have D2 := hD.kept k12 L2
        have c2 := (keptMono hD.2 k12).cut
        have xN2 := xN.same c2
        have xP2 := xP.same c2
        refine ⟨_, rfl, rfl, _, rfl, ?_⟩
        rw [dec_int]
        cases cw0 : way == 0
        · refine iteF ?_
          refine ⟨_, rfl, rfl, _, rfl, ?_⟩
          rw [dec_int]
          cases cw1 : way == 1
          · refine iteF ?_
            refine ⟨_, rfl, rfl, _, rfl, ?_⟩
            rw [dec_int]
            cases cw2 : way == 2
            · refine iteF ?_
              refine ⟨_, rfl, _, rfl, _, rfl, ?_⟩
              refine rd_pick (N := N) rfl L2 (by omega) (rdm_lst (rda_cons (rd_neg rd_int) (rda_cons rd_int (rda_cons rd_bl (rda_cons rd_bl (rda_cons rd_non (rda_cons rd_str (rda_cons (rd_op (f := .int (10 ^ 20)) rd_int rd_int fun H x y s hx hy Q k => by cases hx; cases hy; exact ⟨_, _, rfl, rfl, ⟨by decide, by decide, by decide⟩, k _ _ (Same.refl _) (.int _)⟩) rda_nil))))))) (by decide)) (by simp) (by decide) hD.2 fun d v H3 hd L3 k3 xd => ?_
              have c3 := (keptMono hD.2 k3).cut
              refine fin _ _ _ _ _ _ _ _ H3 _ L3 (by omega) (k12.trans k3) (xN2.same c3) (xP2.same c3) (.int hv) xd good tmh (tm_of ?_)
              exact (by decide +kernel : ∀ d ∈ slantCs, tmB 200 3 d = true) d hd
            · refine iteT ?_
              refine ⟨_, rfl, _, rfl, ?_⟩
              refine rd_pick (N := N) rfl L2 (by omega) (rdm_lst (rda_cons rd_int (rda_cons (rd_neg rd_int) (rda_cons rd_int (rda_cons rd_bl (rda_cons rd_non (rda_cons rd_str (rda_cons (rd_lst D2.1 (rda_cons rd_int rda_nil) (by decide)) (rda_cons (rd_op (f := .int (10 ^ 20)) rd_int rd_int fun H x y s hx hy Q k => by cases hx; cases hy; exact ⟨_, _, rfl, rfl, ⟨by decide, by decide, by decide⟩, k _ _ (Same.refl _) (.int _)⟩) rda_nil)))))))) (by decide)) (by simp) (by decide) hD.2 fun d v H3 hd L3 k3 xd => ?_
              have c3 := (keptMono hD.2 k3).cut
              refine ⟨_, rfl, ?_⟩
              refine fin _ _ _ _ _ _ _ _ H3 _ L3 (by omega) (k12.trans k3) (xN2.same c3) (xP2.same c3) xd (.int sv) good (tm_of ?_) tms
              exact (by decide +kernel : ∀ d ∈ heavyCs, tmB 200 3 d = true) d hd
          · refine iteT ?_
            -- the step, the end
            refine rd_pick (N := N) rfl L2 (by omega) (rdm_lst (rda_cons rd_int (rda_cons rd_int (rda_cons (rd_neg rd_int) (rda_cons rd_bl (rda_cons rd_non (rda_cons rd_str (rda_cons (rd_op (f := .int (10 ^ 30)) rd_int rd_int fun H x y s hx hy Q k => by cases hx; cases hy; exact ⟨_, _, rfl, rfl, ⟨by decide, by decide, by decide⟩, k _ _ (Same.refl _) (.int _)⟩) rda_nil))))))) (by decide)) (by simp) (by decide) hD.2 fun sd sv_ H3 hsd L3 k3 xs => ?_
            have hs' : sd ∈ steps := hsd
            have k13 := k12.trans k3
            have D3 := hD.kept k13 L3
            have xo3 := xo.same (keptMono hD.2 k3).cut
            refine rd_pick (N := N) rfl L3 (by omega) (rdm_lst (rda_cons (rd_tup D3.1 (rda_cons (rd_var rfl xo3) (rda_cons rd_int rda_nil)) (by show 2 ≤ 1000; decide)) (rda_cons (rd_tup D3.1 (rda_cons rd_str (rda_cons (rd_var rfl xs) rda_nil)) (by show 2 ≤ 1000; decide)) (rda_cons (rd_lst D3.1 (rda_cons rd_str (rda_cons rd_int rda_nil)) (by decide))
              (rda_cons (rd_tup D3.1 (rda_cons rd_str (rda_cons rd_int (rda_cons rd_int rda_nil))) (by decide)) (rda_cons (rd_tup D3.1 (rda_cons rd_str rda_nil) (by decide)) (rda_cons (rd_var rfl xo3) rda_nil)))))) (by show 6 ≤ 1000; decide)) (by simp) (by show 6 ≤ 1000; decide) hD.2 fun ed ev H4 hed L4 k4 xe => ?_
            have he' : ed ∈ ends o sd := hed
            have k14 := k13.trans k4
            have D4 := hD.kept k14 L4
            have c4 := (keptMono hD.2 (k3.trans k4)).cut
            have xN4 := xN2.same c4
            have xP4 := xP2.same c4
            have lp : (prs.map pairD).length ≤ 3 := by rw [List.length_map]; exact hg.p3
            have le1 := len_cutD (prs.map pairD) none (some (-1))
            have le2 := len_cutD (prs.map pairD) none (some 1)
            refine seq_lst (N := N) (rda_cons (rd_cat D4.1 (rd_var rfl xP4) (rd_sl (lo := none) (hi := some 1) D4.1 (rd_var rfl xP4) po0 po1) (by omega)) (rda_cons (rd_lst D4.1 rda_nil (by decide)) (rda_cons rd_non (rda_cons (rd_tup D4.1 (rda_cons rd_str (rda_cons rd_int rda_nil)) (by decide))
              (rda_cons (rd_dict1 D4.1) (rda_cons (rd_cat D4.1 (rd_var rfl xP4) (rd_rep (n := 3) D4.1 (rd_lst D4.1 (rda_cons (rd_tup D4.1 (rda_cons rd_str (rda_cons rd_int rda_nil)) (by decide)) rda_nil) (by decide)) (by decide)) (by rw [List.length_replicate]; omega))
              (rda_cons (rd_cat D4.1 (rd_sl (lo := none) (hi := some (-1)) D4.1 (rd_var rfl xP4) po0 poN) (rd_lst D4.1 (rda_cons (rd_var rfl xe) rda_nil) (by show 1 ≤ 1000; decide)) (by have := hg.n8; have := hg.p3; simp; omega)) rda_nil))))))) (by show 7 ≤ 1000; decide) fun a vs H5 s5 ha hvs => ?_
            have h5a : ∀ {H' : Hp}, Same H4 H' → Std N H' := fun e => Std.same D4.1 e
            have sa : Same H4 (upd H5 a (.lst vs)) := s5.trans (Same.new ha)
            have Da := h5a sa
            have xP5 := xP4.same (sameCut sa)
            have xe5 := xe.same (sameCut sa)
            have xl5 : Dx (cut N (upd H5 a (.lst vs))) (.ref a) (.list _) := .lst (cutAt ((h5a s5).new ha) upd_same) (hvs.same (sameCut (Same.new ha)))
            refine seq_cat (N := N) Da (rd_var rfl xl5) (rd_lst Da (rda_cons (rd_cat Da (rd_sl (lo := none) (hi := some (-1)) Da (rd_var rfl xP5) po0 poN) (rd_lst Da (rda_cons (rd_var rfl xe5) rda_nil) (by show 1 ≤ 1000; decide)) (by have := hg.n8; have := hg.p3; simp; omega))
              (rda_cons (rd_lst Da (rda_cons (rd_tup Da (rda_cons rd_str (rda_cons rd_int rda_nil)) (by decide)) (rda_cons (rd_tup Da (rda_cons rd_str (rda_cons rd_int rda_nil)) (by decide)) (rda_cons (rd_tup Da (rda_cons rd_str (rda_cons rd_int rda_nil)) (by decide)) (rda_cons (rd_tup Da (rda_cons rd_str (rda_cons rd_int rda_nil)) (by decide)) rda_nil)))) (by decide)) rda_nil)) (by show 2 ≤ 1000; decide)) (by show 7 + 2 ≤ 1000; decide) fun b H6 s6 xb => ?_
            have s46 : Same H4 H6 := sa.trans s6
            cases xb with
            | lst b1 b2 =>
              obtain ⟨nb, b1⟩ := cut_in b1
              refine ⟨_, rfl, _, rfl, _, rfl, st, gl, cl, _, _, rfl, L4.same s46, by omega, .inl ⟨_, _, rfl, SqL.of b1, fun _ _ z => nb (hD.2 _ z), ?_, ?_, fun j v H7 hj L7 k7 => ?_⟩⟩
              · intro e; rw [e] at b2; cases b2
              · rw [b2.len]; simp
              · obtain ⟨d, hd, hx⟩ := b2.get hj
                have c47 := ((sameCut (N := N) s46).trans (keptMono hD.2 k7).cut)
                refine ⟨_, rfl, _, rfl, ?_⟩
                have hd' : d ∈ pairCs (prs.map pairD) ed := List.mem_of_getElem? hd
                have okE := ends_ok o ho' sd hs' ed he'
                have okd := pairCs_ok lp (good_pairs hg.pn) ⟨tm_of okE.1, oks_of okE.2⟩ d hd'
                exact fin _ _ _ _ _ _ _ _ H7 _ L7 (by omega) ((k14.trans (Same.kept s46)).trans k7) (xN4.same c47) (hx.same (keptMono hD.2 k7).cut) (.int hv) (.int sv) ⟨good.qN, okd.1, good.tN, okd.2⟩ tmh tms
        · refine iteT ?_
          have ln : (ns.map PyData.str).length ≤ 8 := by rw [List.length_map]; exact hg.n8
          have le1 := len_cutD (ns.map PyData.str) none (some (-1))
          have le2 := len_cutD (ns.map PyData.str) none (some 1)
          have S2 := D2.1
          refine seq_lst (N := N) (rda_cons (rd_cat S2 (rd_var rfl xN2) (rd_sl (lo := none) (hi := some 1) S2 (rd_var rfl xN2) po0 po1) (by omega))
            (rda_cons (rd_cat S2 (rd_sl (lo := none) (hi := some (-1)) S2 (rd_var rfl xN2) po0 poN) (rd_lst S2 (rda_cons (rd_var rfl xo) rda_nil) (by show 1 ≤ 1000; decide)) (by have := hg.n8; have := hg.p3; simp; omega))
            (rda_cons (rd_cat S2 (rd_lst S2 (rda_cons (rd_var rfl xo) rda_nil) (by show 1 ≤ 1000; decide)) (rd_var rfl xN2) (by have := hg.n8; have := hg.p3; simp; omega)) (rda_cons (rd_lst S2 rda_nil (by decide)) (rda_cons rd_non (rda_cons rd_str (rda_cons (rd_dict1 S2)
            (rda_cons (rd_cat S2 (rd_var rfl xN2) (rd_rep (n := 8) S2 (rd_lst S2 (rda_cons rd_str rda_nil) (by decide)) (by decide)) (by rw [List.length_replicate]; omega)) rda_nil)))))))) (by show 8 ≤ 1000; decide) fun a vs H3 s3 ha hvs => ?_
          have sa : Same H2 (upd H3 a (.lst vs)) := s3.trans (Same.new ha)
          have aH2 : H2 a = none := s3.free ha
          have nNa : ¬ N a := (Std.same S2 s3).new ha
          refine seq_app (a := a) (vs := vs) (N := fun b => N b ∨ b = a) rfl upd_same (by rw [hvs.len]; show 8 ≤ 1000; decide) (rda_cons rd_str (rda_cons rd_str (rda_cons rd_str (rda_cons rd_str (rda_cons rd_str (rda_cons rd_str (rda_cons rd_str (rda_cons rd_str (rda_cons rd_str rda_nil))))))))) (by decide) fun b ws H4 s4 hb hws => ?_
          have s4b : Same (upd H3 a (.lst vs)) (upd H4 b (.lst ws)) := s4.trans (Same.new hb)
          have ha4 : upd H4 b (.lst ws) a = some (.lst vs) := s4b _ _ upd_same
          have nab : b ≠ a := fun e => by
            have := s4 _ _ (show upd H3 a (.lst vs) a = some (.lst vs) from upd_same)
            rw [← e, hb] at this; cases this
          have na : ¬ N3 st gl cl a := L2.new aH2
          have s24 : Same H2 (upd H4 b (.lst ws)) := sa.trans s4b
          have L5 : LS st gl cl (n + 1 + 1) (upd (upd H4 b (.lst ws)) a (.lst (vs ++ [.ref b]))) := (L2.same s24).upd na
          have k25 : Kept (N3 st gl cl) H2 (upd (upd H4 b (.lst ws)) a (.lst (vs ++ [.ref b]))) := keptNew (Same.kept s24) aH2
          have up : Same (cut (fun b => N b ∨ b = a) (upd H4 b (.lst ws))) (cut (fun b => N b ∨ b = a) (upd (upd H4 b (.lst ws)) a (.lst (vs ++ [.ref b])))) := Kept.cut (Kept.upd (.inr rfl))
          have cu : ∀ {H' H'' : Hp}, Same H' H'' → H' a = none → Same (cut N H') (cut (fun b => N b ∨ b = a) H'') := fun e h c u z => by
            obtain ⟨z1, z2⟩ := cut_in z
            rw [cut_of fun q => q.elim z1 (ne_of_none z2 h)]
            exact e _ _ z2
          have hvs' := (hvs.same (cu ((Same.new ha).trans s4b) ha)).same up
          have xb : Dx (cut (fun b => N b ∨ b = a) (upd H4 b (.lst ws))) (.ref b) (.list qs) := by
            refine .lst (cutAt (fun q => q.elim (fun z => ?_) nab) upd_same) (hws.same (sameCut (Same.new hb)))
            obtain ⟨o, e⟩ := D2.1 b z
            have := (sa.trans s4) _ _ e
            rw [hb] at this; cases this
          have all := hvs'.snoc (xb.same up)
          refine ⟨_, rfl, _, rfl, st, gl, cl, _, _, rfl, L5, by omega, .inl ⟨a, _, rfl, SqL.of upd_same, fun _ _ => na, by simp, by rw [List.length_append, hvs.len]; exact (by decide : (9 : Nat) ≤ 1000), fun j v H7 hj L7 k7 => ?_⟩⟩
          obtain ⟨d, hd, hx⟩ := all.get hj
          have hd' : d ∈ nameCs (ns.map PyData.str) o := List.mem_of_getElem? hd
          have okd := nameCs_ok ln (good_names hg.nn) ho' d hd'
          have c27 := (keptMono hD.2 (k25.trans k7)).cut
          refine ⟨_, rfl, _, rfl, _, rfl, ?_⟩
          exact fin _ _ _ _ _ _ _ _ H7 _ L7 (by omega) (k12.trans (k25.trans k7)) ((hx.same (keptMono (fun b hb => .inl (hD.2 b hb)) k7).cut).same (cutMono fun b hb => .inl hb)) (xP2.same c27) (.int hv) (.int sv) ⟨okd.1, good.bP, okd.2, good.tP⟩ tmh tms
end
end L2.K01
/-! WbMake -/
set_option Elab.async false
set_option linter.all false
set_option maxRecDepth 100000
set_option maxHeartbeats 4000000
/-! A class called with keywords inside a try: what it may let out depends on the slots. -/
namespace L2.Wb
open PySem PySem.Spec PyProof.Rows
section
variable {X : Cx} {CX : CXT} {k n : Nat} {f C : Addr} {fd : FuncData} {ps ks : List Str} {sp : Sp} {E : St → XK} {x : Str} {p pos : Pos} {a : Expr} {as : List Expr} {kws : List Keyword} {t tk : TA} {g : List Value → List Value → List Value} {gV : List V → List V → List V}
theorem makeS_run {pins : List (Addr × Obj)} {σ : L2.St} {H : Hp} {s : Shared} {Q : VK} {us ws : List Value} {vs zs : List V} (mk : Mk X.K C f) (ok : FnOk X.prog X.w X.K X.mg X.base CX k f fd ps sp) (room : Room (k + 1) X.A) (bn : KBn X.K fd ps (n + 1) ks g gV)
    (out : PassesAt CX X σ (E σ)) (I : Inv X pins σ H s) (ru : Vals vs us) (rw' : Vals zs ws) (lu : vs.length = n) (lw : zs.length = ks.length)
    (q : ∀ o od, H o = none → H od = none → od ≠ o → sp (gV (.ref o :: vs) zs) (upd (upd H od (.own o)) o (.ins C od [])) (fun r H3 => r = .non ∧ Q (.ref o) H3) (E σ)) :
    wpAny (model X.prog X.w) X.A (call (.ref C) us (ks.zip ws)) (EP X pins σ Q) X.xe s := by
  have big := I.hok
  let od : Addr := s.heap.objs.size
  let o : Addr := s.heap.objs.size + 1
  have q1 := q o od (big.fresh (Nat.le_succ _)) (big.fresh (Nat.le_refl _)) (Nat.ne_of_lt (Nat.lt_succ_self _))
  have J := I.made (C := C)
  have all : Vals (V.ref o :: vs) (Value.ref o :: us) := Paired.cons (show RelV (.ref o) (.ref o) from rfl) ru
  have cnt : (Value.ref o :: us).length = n + 1 := by simp only [List.length_cons, ← ru.length, lu]
  have body := ok.run (X.A.under (.builtin "type.__call__" ⟨.ref C :: us, ks.zip ws⟩)) X.stack _ _
    ⟨Value.ref o :: us, ks.zip ws⟩ (g (Value.ref o :: us) ws) _ _ (E σ) (room.make C us (ks.zip ws)) (J.env0.make C us (ks.zip ws))
    (bn.to _ _ ws J.kIn cnt (by rw [← rw'.length, lw])) (bn.rel all rw') q1
  refine wpAny_call ?_
  refine make_map (f := f) I.kIn mk.makes mk.init (beq_iff_eq.mp mk.fn) ?_
  refine codeAny_mono body fun fin s' hf => ?_
  match fin, hf with
  | .error e, hf => exact out pins _ _ e s' J hf
  | .ok (.ret u), hf =>
    obtain ⟨v, H', J', rv, ev, q3⟩ := J.after hf
    cases ev
    exact ⟨rv, V.ref o, H', J', rfl, q3⟩
  | .ok .next, hf => exact hf.elim
  | .ok .brk, hf => exact hf.elim
  | .ok .cont, hf => exact hf.elim
/-- the term -/
def tMakeS (C : Addr) (n m : Nat) (sp : Sp) (gV : List V → List V → List V) (E : L2.St → XK) (t tk : TA) : TE := fun σ H Q => t σ H fun vs H1 => tk σ H1 fun zs H2 => vs.length = n ∧ zs.length = m ∧ ∀ o od, H2 o = none → H2 od = none → od ≠ o →
  sp (gV (.ref o :: vs) zs) (upd (upd H2 od (.own o)) o (.ins C od [])) (fun r H3 => r = .non ∧ Q (.ref o) H3) (E σ)
theorem pe_makeS (mk : Mk X.K C f) (ok : FnOk X.prog X.w X.K X.mg X.base CX k f fd ps sp) (room : Room (k + 1) X.A) (gl : Gl X x) (at_ : X.mg x = some (.ref C)) (bn : KBn X.K fd ps (n + 1) ks g gV) (out : ∀ σ, PassesAt CX X σ (E σ)) (pa : PA X (a :: as) t) (pk : PK X kws tk)
    (h1 : (backToKw pos (keywordEach kws X.env)).all (·.1.isSome) = true := by rfl) (h2 : (backToKw pos (keywordEach kws X.env)).filterMap (·.1) = ks := by rfl) (h3 : (x == ("__debug__" : Str)) = false := by decide)
    (h4 : starEach (a :: as) X.env = (false, eval a X.env) :: starEach as X.env := by rfl) (h5 : ((backTo pos (starEach (a :: as) X.env)).any (·.1) || (backToKw pos (keywordEach kws X.env)).any (·.1.isNone)) = false := by rfl) :
    PE X (.Call (.Name x p) (a :: as) kws pos) (tMakeS C n ks.length sp gV E t tk) := by
  refine ⟨fun pins s σ H Q I h => wpAny_Call_Name_kw (ld_glob I gl at_ ?_ h3)⟩
  refine PySem.W.callWith_KW (h₀ := X.base) I.ok.mod.kin mk.kp h1 (thn (pa.run pos pins s σ H _ I h) fun us z hz => ?_) h5 h4
  obtain ⟨vs, H1, J, ra, q⟩ := hz
  refine thn (pk.run pos pins z σ H1 _ J q) fun ws z2 hz2 => ?_
  obtain ⟨zs, H2, J2, rz, lu, lw, q2⟩ := hz2
  refine ⟨J2.kIn, ?_⟩
  rw [h2]
  exact makeS_run mk ok room bn (out σ) J2 ra rz lu lw q2
theorem pe_makeS0 (mk : Mk X.K C f) (ok : FnOk X.prog X.w X.K X.mg X.base CX k f fd ps sp) (room : Room (k + 1) X.A) (gl : Gl X x) (at_ : X.mg x = some (.ref C)) (bn : KBn X.K fd ps 1 ks g gV) (out : ∀ σ, PassesAt CX X σ (E σ)) (pk : PK X kws tk)
    (h1 : (backToKw pos (keywordEach kws X.env)).all (·.1.isSome) = true := by rfl) (h2 : (backToKw pos (keywordEach kws X.env)).filterMap (·.1) = ks := by rfl) (h3 : (x == ("__debug__" : Str)) = false := by decide)
    (h5 : ((backTo pos (starEach [] X.env)).any (·.1) || (backToKw pos (keywordEach kws X.env)).any (·.1.isNone)) = false := by rfl) :
    PE X (.Call (.Name x p) [] kws pos) (tMakeS C 0 ks.length sp gV E tNil tk) := by
  refine ⟨fun pins s σ H Q I h => wpAny_Call_Name_kw (ld_glob I gl at_ ?_ h3)⟩
  refine PySem.W.callWith_KW0 (h₀ := X.base) I.ok.mod.kin mk.kp h1 ?_ h5
  refine thn (pk.run pos pins s σ H _ I h) fun ws z2 hz2 => ?_
  obtain ⟨zs, H2, J2, rz, lu, lw, q2⟩ := hz2
  refine ⟨J2.kIn, ?_⟩
  rw [h2]
  exact makeS_run (us := []) (vs := []) mk ok room bn (out σ) J2 .nil rz rfl lw q2
/-- o.m(a, ..), what it may let out by the slots -/
def tMethS (C : Addr) (m : Str) (sp : Sp) (E : L2.St → XK) (to : TE) (t : TA) : TE := fun σ H Q => to σ H fun v H1 => ∃ b od fs, v = .ref b ∧ H1 b = some (.ins C od fs) ∧ fs.lookup m = none ∧ t σ H1 fun vs H2 => sp (v :: vs) H2 Q (E σ)
theorem pe_methS {o : Expr} {to : TE} {m : Str} {apos : Pos} {pl : Sem Bool} (po : PE X o to) (cl : Cls X.K C) (me : Meth X.K C m f) (ok : FnOk X.prog X.w X.K X.mg X.base CX k f fd ps sp) (room : Room k X.A) (bn : Binds X.K fd ps []) (out : ∀ σ, PassesAt CX X σ (E σ)) (pa : PA X (a :: as) t)
    (h4 : starEach (a :: as) X.env = (false, eval a X.env) :: starEach as X.env := by rfl) (h5 : (backTo pos (starEach as X.env)).any (·.1) = false := by rfl)
    (h6 : eval (.Call (.Attribute o m apos) (a :: as) [] pos) X.env = (do
      let ov ← eval o X.env
      standAt apos.atName
      let (g, first) ← holding [ov] (getMethod ov m pl)
      callWith pos g first (backTo pos (starEach (a :: as) X.env)) (backToKw pos (keywordEach [] X.env))) := by rfl) :
    PE X (.Call (.Attribute o m apos) (a :: as) [] pos) (tMethS C m sp E to t) := by
  refine ⟨fun pins s σ H Q I h => PySem.W.methodCall_KW (pl := pl) (thn (po.run pins s σ H _ I h) fun u z hz => ?_) h6⟩
  obtain ⟨v, H1, J, rv, b, od, fs, rfl, eb, nl, q⟩ := hz
  cases (show u = Value.ref b from rv)
  refine getmeth_ok J eb cl me nl (PySem.W.callWith_K (first := [.ref b]) (h₀ := X.base) J.ok.mod.kin me.kp (thn (pa.run pos pins z σ H1 _ J q) fun us z2 hz2 => ?_) h4 h5)
  obtain ⟨vs, H2, J2, r, q2⟩ := hz2
  exact ⟨J2.kIn, run_fnS (us := .ref b :: us) (vs := .ref b :: vs) ok room bn (out σ) J2 (.cons (show RelV (.ref b) (.ref b) from rfl) r) q2⟩
end
end L2.Wb
/-! K01p -/
set_option Elab.async false
set_option linter.all false
set_option maxRecDepth 100000
set_option maxHeartbeats 8000000
namespace L2.K01
open PySem PySem.Spec PyProof.Rows L2.Wb
abbrev sMade : Stmt := top 28
abbrev sNoB : Stmt := top 29
def tryBody : Stmt → List Stmt
  | .Try b _ _ _ _ => b
  | _ => []
def spMade (K : PySem.W.Frag) (CY : Addr) : Sp := fun vs H Q _ => ∃ (r : Addr) (vN vP vH vS : V) (dN dP dH dS : PyData) (way : Int), vs = [.ref r, .int way] ∧ SqL K H r [vN, vP, vH, vS] ∧ Dx H vN dN ∧ Dx H vP dP ∧ Dx H vH dH ∧ Dx H vS dS ∧ OkQ dN ∧ OkB dP ∧
  (yardD dN dP dH dS = true → ∀ p H', Same H H' → H p = none → YardAt CY H' p (seqD dN) (seqD dP) (intOf dH) (intOf dS) → Q (.ref p) H') ∧ (yardD dN dP dH dS = false → ∀ H', Same H H' → Q .non H')
structure TxtE (K : PySem.W.Frag) (mg : Str → Option Value) (CE CN CB CY fI : Addr) : Prop where
  nisi : mg "isinstance" = none
  gE : mg "BeamError" = some (.ref CE)
  gN : mg "NoYard" = some (.ref CN)
  gB : mg "NoBeam" = some (.ref CB)
  gY : mg "Yard" = some (.ref CY)
  mkY : Mk K CY fI
  eN : PySem.W.exmOne K (.ref CN) (.ref CE) = some true
  eB : PySem.W.exmOne K (.ref CB) (.ref CE) = some true
  xN : ExD K CN
  xB : ExD K CB
  nn : PySem.W.kitOne K (.ref CN) (.ref CN) = some true
  nb : PySem.W.kitOne K (.ref CN) (.ref CB) = some false
  bn : PySem.W.kitOne K (.ref CB) (.ref CN) = some false
  bb : PySem.W.kitOne K (.ref CB) (.ref CB) = some true
  nob : PySem.W.findIn K (.ref CB) "beam" = some none
theorem okq_short {d : PyData} (h : OkQ d) : ShortS d := fun ds e x hx => ((h ds e).2 x hx).short
theorem okb_short {d : PyData} (h : OkB d) : ShortB d := fun ds e x hx => ((h ds e).2 x hx).short
section
variable {P : Program} {w : World} {K : PySem.W.Frag} {mg : Str → Option Value} {base : Heap} {CE CN CB CY fI : Addr} {dI : FuncData}
theorem scMade : FnScope ["row", "way", "found", "error", "e"] ["row", "way"] (defScope sMade) := ⟨rfl, rfl, rfl, by decide +kernel, rfl, by decide +kernel, by decide +kernel⟩
theorem ok_made {f : Addr} {fd : FuncData} {gA gB : List Value → List Value → List Value} (F : Fun K "_law_made" "_law_made" sMade f fd) (T : TxtE K mg CE CN CB CY fI) (GI : FnOk P w K mg base (L2.CX P w) 4 fI dI ["self", "things", "beams", "most", "lean"] (spInit CY CN))
    (bA : KBn K dI ["self", "things", "beams", "most", "lean"] 3 ["most", "lean"] gA (fun vs zs => vs ++ zs)) (bB : KBn K dI ["self", "things", "beams", "most", "lean"] 1 ["lean", "most", "beams", "things"] gB (fun vs zs => vs ++ zs.reverse)) :
    FnOk P w K mg base CX0 6 f fd ["row", "way"] (spMade K CY) := by
  refine F.ok scMade (fun vs H Q E h => ?_) (fun cdv A outer s H vs Q E hr h => ?_)
  · obtain ⟨_, _, _, _, _, _, _, _, _, _, rfl, _⟩ := h; rfl
  · obtain ⟨r, vN, vP, vH, vS, dN, dP, dH, dS, way, rfl, hrow, hN, hP, hH, hS, oN, oP, kY, kN⟩ := h
    have hr5 : Room 5 _ := hr.mono (by decide)
    refine ⟨_, pss_cons (ps_asg (pe_tup (pa_cons pe_non (pa_cons pe_non pa_nil))) (pg_tup rfl (pgs_cons (pg_name (i := 2) scMade.nd rfl (Or.inl rfl)) (pgs_cons (pg_name (i := 3) scMade.nd rfl (Or.inl rfl)) pgs_nil))))
      (pss_cons (ps_try_held (body := tryBody ((defBody sMade).getD 1 (.Pass ⟨0, 0, 0, 0⟩))) (i := 4) (tb := fun W => tIfS (tTest (tOp rEq (tVar 1) (tC (.int 0))))
            (tAsg (tMakeS CY 2 2 (spInit CY CN) (fun vs zs => vs ++ zs) (WE W) (tCons (tOp (rIxL K) (tVar 0) (tC (.int 0))) (tCons (tOp (rIxL K) (tVar 0) (tC (.int 1))) tNil)) (tCons (tOp (rIxL K) (tVar 0) (tC (.int 2))) (tCons (tOp (rIxL K) (tVar 0) (tC (.int 3))) tNil))) (gName 2))
            (tAsg (tMakeS CY 0 4 (spInit CY CN) (fun vs zs => vs ++ zs.reverse) (WE W) tNil (tCons (tOp (rIxL K) (tVar 0) (tC (.int 3))) (tCons (tOp (rIxL K) (tVar 0) (tC (.int 2))) (tCons (tOp (rIxL K) (tVar 0) (tC (.int 1))) (tCons (tOp (rIxL K) (tVar 0) (tC (.int 0))) tNil))))) (gName 2)))
          (ts := fun _ _ _ => tAsg (tVar 4) (gName 3)) (Wout := fun _ _ _ _ => False) rfl rfl rfl scMade.nd rfl rfl ⟨rfl, by decide, Or.inl T.gE⟩ takes0
          (fun W pn xe tk _ => pss_one (ps_if (pt_cmpR op_eq (pv 1) pe_int (nomark _))
            (pss_one (ps_set (i := 2) scMade.nd rfl (Or.inl rfl) (by exact pe_makeS (ks := ["most", "lean"]) T.mkY GI hr5 rfl T.gY bA (fun σ => passAt tk σ) (pa_cons (pe_ix ix_list (pv 0) pe_int (fun _ _ => rfl)) (pa_cons (pe_ix ix_list (pv 0) pe_int (fun _ _ => rfl)) pa_nil)) (pk_cons (pe_ix ix_list (pv 0) pe_int (fun _ _ => rfl)) (pk_cons (pe_ix ix_list (pv 0) pe_int (fun _ _ => rfl)) pk_nil)))))
            (pss_one (ps_set (i := 2) scMade.nd rfl (Or.inl rfl) (by exact pe_makeS0 (ks := ["lean", "most", "beams", "things"]) T.mkY GI hr5 rfl T.gY bB (fun σ => passAt tk σ) (pk_cons (pe_ix ix_list (pv 0) pe_int (fun _ _ => rfl)) (pk_cons (pe_ix ix_list (pv 0) pe_int (fun _ _ => rfl)) (pk_cons (pe_ix ix_list (pv 0) pe_int (fun _ _ => rfl)) (pk_cons (pe_ix ix_list (pv 0) pe_int (fun _ _ => rfl)) pk_nil)))))))))
          (fun a oe cls d pn hz hf => pss_one (ps_set (i := 3) scMade.nd rfl (Or.inl rfl) (pv 4))))
      (pss_cons (ps_if (pt_cmpR op_isN (pv 3) pe_non (nomark _)) (pss_one (ps_ret (pv 2))) pss_nil)
      (pss_one (ps_ret (pe_ifExp (PW.pt (pw_and (pt_val (pe_callB call_isH (by rfl) T.nisi (by decide +kernel) (pa_cons (pv 3) (pa_cons (pe_glob (v := .ref CN) (by rfl) T.gN rfl) pa_nil))))
        (pw_and1 (pt_not (pt_val (pe_callB call_isH (by rfl) T.nisi (by decide +kernel) (pa_cons (pv 3) (pa_cons (pe_glob (v := .ref CB) (by rfl) T.gB rfl) pa_nil)))))))) pe_non pe_str))))), ?_⟩
    refine ⟨show 2 ≤ sizeLine by decide +kernel, fun tp htp => ?_⟩
    have s1 : Same H (upd H tp (.tup [.non, .non])) := Same.new htp
    have row1 := s1.seq hrow
    refine ⟨tp, _, rfl, SqT.of upd_same, rfl, _, _, rfl, _, _, rfl, rfl, ?_⟩
    refine ⟨_, rfl, rfl, _, rfl, ?_⟩
    rw [dec_int]
    cases cw : way == 0
    · refine iteF ?_
      refine ⟨_, rfl, r, _, _, _, rfl, rfl, row1, rfl, _, rfl, r, _, _, _, rfl, rfl, row1, rfl, _, rfl, r, _, _, _, rfl, rfl, row1, rfl, _, rfl, r, _, _, _, rfl, rfl, row1, rfl, rfl, rfl, fun o od ho hod hne => ?_⟩
      have s2 : Same H (upd (upd (upd H tp (.tup [.non, .non])) od (.own o)) o (.ins CY od [])) := fun b u z => by
        have z1 := s1 _ _ z
        rw [upd_ne (ne_of_none z1 ho), upd_ne (ne_of_none z1 hod)]
        exact z1
      have oH : H o = none := s1.free ho
      refine ⟨o, od, vN, vP, vH, vS, dN, dP, dH, dS, rfl, upd_same, hN.same s2, hP.same s2, hH.same s2, hS.same s2, okq_short oN, okb_short oP, fun hy H' keep ya => ⟨rfl, ?_⟩, fun hy H' s' => ?_⟩
      · refine ⟨_, rfl, rfl, _, rfl, ?_⟩
        refine iteT ?_
        exact ⟨_, rfl, kY hy o H' (fun b u z => keep b u (ne_of_none z oH) (s2 _ _ z)) oH ya⟩
      · refine ⟨true, T.eN, fun _ a ha => ?_, fun q => Bool.noConfusion q⟩
        refine ⟨_, rfl, fun _ => ?_⟩
        refine ⟨_, rfl, rfl, _, rfl, ?_⟩
        refine iteF ?_
        refine ⟨_, rfl, a, CN, none, _, _, true, rfl, upd_same, (fun _ e => nomatch e), T.xN, .own CN, T.nn, _, rfl, ?_⟩
        refine iteT ?_
        refine ⟨_, rfl, a, CN, none, _, _, false, rfl, upd_same, (fun _ e => nomatch e), T.xN, .own CB, T.nb, _, rfl, ?_⟩
        refine iteT ?_
        exact kN hy _ ((s2.trans s').trans (Same.new ha))
    · refine iteT ?_
      refine ⟨_, rfl, r, _, _, _, rfl, rfl, row1, rfl, _, rfl, r, _, _, _, rfl, rfl, row1, rfl, _, rfl, r, _, _, _, rfl, rfl, row1, rfl, _, rfl, r, _, _, _, rfl, rfl, row1, rfl, rfl, rfl, fun o od ho hod hne => ?_⟩
      have s2 : Same H (upd (upd (upd H tp (.tup [.non, .non])) od (.own o)) o (.ins CY od [])) := fun b u z => by
        have z1 := s1 _ _ z
        rw [upd_ne (ne_of_none z1 ho), upd_ne (ne_of_none z1 hod)]
        exact z1
      have oH : H o = none := s1.free ho
      refine ⟨o, od, vN, vP, vH, vS, dN, dP, dH, dS, rfl, upd_same, hN.same s2, hP.same s2, hH.same s2, hS.same s2, okq_short oN, okb_short oP, fun hy H' keep ya => ⟨rfl, ?_⟩, fun hy H' s' => ?_⟩
      · refine ⟨_, rfl, rfl, _, rfl, ?_⟩
        refine iteT ?_
        exact ⟨_, rfl, kY hy o H' (fun b u z => keep b u (ne_of_none z oH) (s2 _ _ z)) oH ya⟩
      · refine ⟨true, T.eN, fun _ a ha => ?_, fun q => Bool.noConfusion q⟩
        refine ⟨_, rfl, fun _ => ?_⟩
        refine ⟨_, rfl, rfl, _, rfl, ?_⟩
        refine iteF ?_
        refine ⟨_, rfl, a, CN, none, _, _, true, rfl, upd_same, (fun _ e => nomatch e), T.xN, .own CN, T.nn, _, rfl, ?_⟩
        refine iteT ?_
        refine ⟨_, rfl, a, CN, none, _, _, false, rfl, upd_same, (fun _ e => nomatch e), T.xN, .own CB, T.nb, _, rfl, ?_⟩
        refine iteT ?_
        exact kN hy _ ((s2.trans s').trans (Same.new ha))
end
end L2.K01
/-! K01q -/
set_option Elab.async false
set_option linter.all false
set_option maxRecDepth 100000
set_option maxHeartbeats 8000000
namespace L2.K01
open PySem PySem.Spec PyProof.Rows L2.Wb
def spNoB (CY : Addr) : Sp := fun vs H Q _ => ∃ (p : Addr) (ts bs : List PyData) (m l : Int) (v : V) (d : PyData), vs = [.ref p, v] ∧ YardAt CY H p ts bs m l ∧ YardV ts bs m l ∧ Dx H v d ∧ stepD bs d = none ∧ Shw d ∧ ∀ H', Same H H' → Q (.bl true) H'
theorem yf_no {ta tb : Addr} {m l : Int} {x : Str} (h1 : ¬ x = "_things") (h2 : ¬ x = "_beams") (h3 : ¬ x = "_most") (h4 : ¬ x = "_lean") : (yf ta tb m l).lookup x = none := by
  unfold yf
  rw [lookup_putF, if_neg h4, lookup_putF, if_neg h3, lookup_putF, if_neg h2, lookup_putF, if_neg h1]
  rfl
section
variable {P : Program} {w : World} {K : PySem.W.Frag} {mg : Str → Option Value} {base : Heap} {CE CN CB CY fI fS : Addr} {dS : FuncData}
theorem scNoB : FnScope ["yard", "item", "error", "e"] ["yard", "item"] (defScope sNoB) := ⟨rfl, rfl, rfl, by decide +kernel, rfl, by decide +kernel, by decide +kernel⟩
theorem ok_noB {f : Addr} {fd : FuncData} (F : Fun K "_law_no_beam" "_law_no_beam" sNoB f fd) (T : TxtE K mg CE CN CB CY fI) (TM : TxtM K mg CY) (nrepr : mg "repr" = none) (hsys : (K.lookup sysModules).isSome = true) (MS : Meth K CY "step" fS) (GS : FnOk P w K mg base (L2.CX P w) 3 fS dS ["self", "beam"] (spStep CY CB)) (bS : Binds K dS ["self", "beam"] []) :
    WG P w K mg base CX0 4 f fd ["yard", "item"] (spNoB CY) := by
  refine fun_wg F scNoB (fun vs H Q E h => ?_) (fun cdv A outer s H vs Q E hgu hr h => ?_)
  · obtain ⟨_, _, _, _, _, _, _, rfl, _⟩ := h; rfl
  · obtain ⟨p, ts, bs, m, l, v, d, rfl, hy, hv, hd, hst, hsh, k⟩ := h
    have hg2 : (A.deeper (envOfC "_law_no_beam" (defScope sNoB) s.heap.objs.size f cdv)).guards = some [] := hgu
    refine ⟨_, PSs.nox (pss_cons (ps_set (i := 2) scNoB.nd rfl (Or.inl rfl) pe_non)
      (pss_cons (ps_try_held (body := tryBody ((defBody sNoB).getD 1 (.Pass ⟨0, 0, 0, 0⟩))) (i := 3) (tb := fun W => tDrop (Wb.tMethS CY "step" (spStep CY CB) (WE W) (tVar 0) (tCons (tVar 1) tNil)))
          (ts := fun _ _ _ => tAsg (tVar 3) (gName 2)) (Wout := fun _ _ _ _ => False) rfl rfl rfl scNoB.nd rfl rfl ⟨rfl, by decide, Or.inl T.gE⟩ takes0
          (fun W pn xe tk _ => pss_one (ps_expr (by exact Wb.pe_methS (pv 0) TM.clY MS GS hr bS (fun σ => passAt tk σ) (pa_cons (pv 1) pa_nil))))
          (fun a oe cls d pn hz hf => pss_one (ps_set (i := 2) scNoB.nd rfl (Or.inl rfl) (pv 3))))
      (pss_one (ps_ret (pe_and (pe_callB call_isH (by rfl) T.nisi (by decide +kernel) (pa_cons (pv 2) (pa_cons (pe_glob (v := .ref CB) (by rfl) T.gB rfl) pa_nil)))
        (pe_and (pe_not (pe_callB call_isH (by rfl) T.nisi (by decide +kernel) (pa_cons (pv 2) (pa_cons (pe_glob (v := .ref CN) (by rfl) T.gN rfl) pa_nil))))
        (pe_one (pe_cmpR op_eq (pe_callB (call_reprD hg2 hr hsys) (by rfl) nrepr (by decide +kernel) (pa_cons (pe_heldF (pv 2)) pa_nil)) (pe_callB (call_reprD hg2 hr hsys) (by rfl) nrepr (by decide +kernel) (pa_cons (pv 1) pa_nil)) (nomark _))))))))), ?_⟩
    obtain ⟨dx, ta, tb, hp, hta, htb⟩ := id hy
    refine ⟨_, rfl, p, dx, _, rfl, hp, yf_no (by decide +kernel) (by decide +kernel) (by decide +kernel) (by decide +kernel), _, rfl, ?_⟩
    refine ⟨p, ts, bs, m, l, v, d, rfl, hy, hv, hd, fun st e => (by rw [hst] at e; cases e), fun _ dd hdd => ?_⟩
    refine ⟨true, T.eB, fun _ a ha => ?_, fun q => Bool.noConfusion q⟩
    refine ⟨_, rfl, fun _ => ?_⟩
    have s1 : Same H (upd (upd H dd (.xd [(("beam" : Str), v)])) a (exh (.ref CB) (some dd) a)) := (Same.new hdd).trans (Same.new ha)
    have hdd1 : upd (upd H dd (.xd [(("beam" : Str), v)])) a (exh (.ref CB) (some dd) a) dd = some (.xd [(("beam" : Str), v)]) := by
      have ne : dd ≠ a := fun e => by rw [← e, upd_same] at ha; cases ha
      rw [upd_ne ne, upd_same]
    have hx : ∀ d', some dd = some d' → ∃ fs, upd (upd H dd (.xd [(("beam" : Str), v)])) a (exh (.ref CB) (some dd) a) d' = some (.xd fs) := fun d' e => by cases e; exact ⟨_, hdd1⟩
    refine ⟨_, rfl, a, CB, some dd, _, _, true, rfl, upd_same, hx, T.xB, .own CB, T.bb, _, rfl, ?_⟩
    refine iteT ?_
    refine ⟨_, rfl, a, CB, some dd, _, _, false, rfl, upd_same, hx, T.xB, .own CN, T.bn, _, rfl, _, rfl, ?_⟩
    refine iteT ?_
    refine ⟨_, rfl, a, CB, dd, _, v, rfl, upd_same, hdd1, T.xB, T.nob, rfl, v, d, rfl, hd.same s1, hsh, _, rfl, v, d, rfl, hd.same s1, hsh, rfl, ?_⟩
    rw [decide_eq_true (rfl : V.str d.shown = V.str d.shown)]
    exact k _ s1
end
end L2.K01
/-! WbMeth -/
set_option Elab.async false
set_option linter.all false
set_option maxRecDepth 100000
set_option maxHeartbeats 4000000
/-! Calls by keywords alone; a text some times. -/
namespace L2.Wb
open PySem PySem.Spec PyProof.Rows
section
variable {X : Cx} {CX : CXT} {k : Nat} {f C : Addr} {fd : FuncData} {ps ks : List Str} {sp : Sp} {E : XK} {x m : Str} {p apos pos : Pos} {o : Expr} {kws : List Keyword} {to : TE} {tk : TA} {g : List Value → List Value → List Value} {gV : List V → List V → List V}
def tCallK (m : Nat) (sp : Sp) (gV : List V → List V → List V) (E : XK) (tk : TA) : TE := fun σ H Q => tk σ H fun zs H1 => zs.length = m ∧ sp (gV [] zs) H1 Q E
/-- f(k = v, ..) -/
theorem pe_callK (ok : FnOk X.prog X.w X.K X.mg X.base CX k f fd ps sp) (room : Room k X.A) (gl : Gl X x) (at_ : X.mg x = some (.ref f)) (kp : PySem.W.keepIn X.K (.ref f) = true) (bn : KBn X.K fd ps 0 ks g gV) (out : Passes CX X E) (pk : PK X kws tk)
    (h1 : (backToKw pos (keywordEach kws X.env)).all (·.1.isSome) = true := by rfl) (h2 : (backToKw pos (keywordEach kws X.env)).filterMap (·.1) = ks := by rfl) (h3 : (x == ("__debug__" : Str)) = false := by decide)
    (h5 : ((backTo pos (starEach [] X.env)).any (·.1) || (backToKw pos (keywordEach kws X.env)).any (·.1.isNone)) = false := by rfl) :
    PE X (.Call (.Name x p) [] kws pos) (tCallK ks.length sp gV E tk) := by
  refine ⟨fun pins s σ H Q I h => wpAny_Call_Name_kw (ld_glob I gl at_ ?_ h3)⟩
  refine PySem.W.callWith_KW0 (h₀ := X.base) I.ok.mod.kin kp h1 (thn (pk.run pos pins s σ H _ I h) fun ws z hz => ?_) h5
  obtain ⟨zs, H1, J, rz, lw, q⟩ := hz
  refine ⟨J.kIn, ?_⟩
  rw [h2]
  exact run_fnN (us := []) (vs := []) ok room bn out J .nil rz rfl lw q
def tMethK (C : Addr) (m : Str) (n : Nat) (sp : Sp) (gV : List V → List V → List V) (E : XK) (to : TE) (tk : TA) : TE := fun σ H Q => to σ H fun v H1 => ∃ b od fs, v = .ref b ∧ H1 b = some (.ins C od fs) ∧ fs.lookup m = none ∧ tk σ H1 fun zs H2 => zs.length = n ∧ sp (gV [v] zs) H2 Q E
/-- o.m(k = v, ..) -/
theorem pe_methK {pl : Sem Bool} (po : PE X o to) (cl : Cls X.K C) (me : Meth X.K C m f) (ok : FnOk X.prog X.w X.K X.mg X.base CX k f fd ps sp) (room : Room k X.A) (bn : KBn X.K fd ps 1 ks g gV) (out : Passes CX X E) (pk : PK X kws tk)
    (h1 : (backToKw pos (keywordEach kws X.env)).all (·.1.isSome) = true := by rfl) (h2 : (backToKw pos (keywordEach kws X.env)).filterMap (·.1) = ks := by rfl)
    (h5 : ((backTo pos (starEach [] X.env)).any (·.1) || (backToKw pos (keywordEach kws X.env)).any (·.1.isNone)) = false := by rfl)
    (h6 : eval (.Call (.Attribute o m apos) [] kws pos) X.env = (do
      let ov ← eval o X.env
      standAt apos.atName
      let (g, first) ← holding [ov] (getMethod ov m pl)
      callWith pos g first (backTo pos (starEach [] X.env)) (backToKw pos (keywordEach kws X.env))) := by rfl) :
    PE X (.Call (.Attribute o m apos) [] kws pos) (tMethK C m ks.length sp gV E to tk) := by
  refine ⟨fun pins s σ H Q I h => PySem.W.methodCall_KW (pl := pl) (thn (po.run pins s σ H _ I h) fun u z hz => ?_) h6⟩
  obtain ⟨v, H1, J, rv, b, od, fs, rfl, eb, nl, q⟩ := hz
  cases (show u = Value.ref b from rv)
  refine getmeth_ok J eb cl me nl (PySem.W.callWith_KW0 (first := [.ref b]) (h₀ := X.base) J.ok.mod.kin me.kp h1 (thn (pk.run pos pins z σ H1 _ J q) fun ws z2 hz2 => ?_) h5)
  obtain ⟨zs, H2, J2, rz, lw, q2⟩ := hz2
  refine ⟨J2.kIn, ?_⟩
  rw [h2]
  exact run_fnN (us := [.ref b]) (vs := [.ref b]) ok room bn out J2 (.cons (show RelV (.ref b) (.ref b) from rfl) .nil) rz rfl lw q2
end
/-- one sign, n times -/
def rRepC : R2 := fun x y H Q => ∃ (c : Nat) (n : Nat), x = .str ⟨#[c]⟩ ∧ y = .int n ∧ 2 ≤ n ∧ n ≤ 1000 ∧ ((List.replicate n #[c]).foldl (· ++ ·) #[]).size ≤ 1000 ∧ Q (.str ⟨(List.replicate n #[c]).foldl (· ++ ·) #[]⟩) H
theorem op_repC {X : Cx} : OpR X (binaryOp .Mult) rRepC := by
  intro pins s σ H x y v u Q I rx ry ⟨c, n, ex, ey, h2, h3, hz, q⟩
  subst ex; subst ey
  obtain ⟨t, rfl⟩ := rx
  obtain ⟨t', rfl⟩ := ry
  have e1 : ¬ (n : Int) < 1 := by omega
  have e2 : ((n : Int) == 1 || (⟨#[c]⟩ : Str).length == 0) = false := by
    rw [Bool.or_eq_false_iff]
    exact ⟨beq_eq_false_iff_ne.mpr (by omega), rfl⟩
  refine PySem.P.mul_str (by rw [decide_eq_false (by omega), decide_eq_false (by omega)]; rfl) (fun _ _ => ?_) (fun _ _ => ?_) ?_
  · have e : (⟨#[c]⟩ : Str).length = 1 := rfl
    rw [e]
    have : (1 : Int) ≤ (2 ^ 63 - 1) / n := by
      refine (Int.le_ediv_iff_mul_le (by omega)).mpr ?_
      omega
    omega
  · have e : (⟨#[c]⟩ : Str).length = 1 := rfl
    rw [e, Int.toNat_natCast, Nat.one_mul]
    unfold Builtin.Str.tooLong
    refine decide_eq_false ?_
    have : (1000 : Nat) ≤ sizeLine := by decide +kernel
    omega
  · rw [if_neg e1, if_neg (by rw [e2]; decide)]
    rw [Int.toNat_natCast]
    exact ⟨Nat.le_trans hz (by decide +kernel), .str _, H, I.tok _, ⟨_, rfl⟩, q⟩
end L2.Wb
/-! K01r -/
set_option Elab.async false
set_option linter.all false
set_option maxRecDepth 100000
set_option maxHeartbeats 4000000
namespace L2.K01
open PySem PySem.Spec PyProof.Rows L2.Wb
abbrev sTells : Stmt := top 30
def gK (vs zs : List V) : List V := vs ++ zs
def spTells (CY : Addr) : Sp := fun vs H Q _ => ∃ (st gl cl p r : Addr) (n : Nat) (N : Addr → Prop) (dN dP : PyData) (ts bs : List PyData) (m l : Int), vs = [.ref st, .ref p, .ref r] ∧ LS st gl cl n H ∧ n ≤ 900000 ∧ Dom st gl cl H N ∧ Dx (cut N H) (.ref r) (.list [dN, dP, .int m, .int l]) ∧ seqOf dN = some ts ∧ seqOf dP = some bs ∧
  YardAt CY (cut N H) p ts bs m l ∧ YardV ts bs m l ∧ ∀ H', LS st gl cl (n + 1) H' → Kept (N3 st gl cl) H H' → Q (.bl true) H'
structure TxtT (K : PySem.W.Frag) (mg : Str → Option Value) (CY fTh fBm fMo fLe fS fP fB : Addr) : Prop where
  tm : TxtM K mg CY
  nlst : mg "list" = none
  nrepr : mg "repr" = none
  nrange : mg "range" = none
  hsys : (K.lookup sysModules).isSome = true
  mTh : Meth K CY "things" fTh
  mBm : Meth K CY "beams" fBm
  mMo : Meth K CY "most" fMo
  mLe : Meth K CY "lean" fLe
  mS : Meth K CY "step" fS
  gP : mg "_law_pick" = some (.ref fP)
  kP : PySem.W.keepIn K (.ref fP) = true
  gB : mg "_law_no_beam" = some (.ref fB)
  kB : PySem.W.keepIn K (.ref fB) = true
theorem YardAt.same {CY : Addr} {H H' : Hp} {p : Addr} {ts bs : List PyData} {m l : Int} (h : YardAt CY H p ts bs m l) (e : Same H H') : YardAt CY H' p ts bs m l := by
  obtain ⟨dx, ta, tb, h1, h2, h3⟩ := h
  exact ⟨dx, ta, tb, e _ _ h1, h2.same e, h3.same e⟩
theorem Tm.shw {w k : Nat} {d : PyData} (h : Tm w k d) (a : w ≤ 200000) (b : k ≤ 40) : Shw d := ⟨h.sh, h.le, Nat.le_trans h.wt a, Nat.le_trans h.dp b⟩
theorem YardV.tmT {ts bs : List PyData} {m l : Int} (v : YardV ts bs m l) : Tm 88 1 (.list ts) := by
  obtain ⟨ds, e, _, h8, _⟩ := thingsD_seq v.ts
  cases e
  exact tm_list (w := 10) (k := 0) (n := 8) (fun d hd => by obtain ⟨x, rfl, hx⟩ := v.thing hd; exact tm_name hx) h8
theorem YardV.tmB {ts bs : List PyData} {m l : Int} (v : YardV ts bs m l) : Tm 69 2 (.list bs) := by
  obtain ⟨ds, e, _, h3, _⟩ := beamsD_seq v.bs
  cases e
  refine tm_list (w := 22) (k := 1) (n := 3) (fun d hd => ?_) h3
  obtain ⟨x, s, rfl, hx, s0, s1, _⟩ := v.beam hd
  refine tm_tuple (w := 10) (k := 0) (n := 2) (fun d hd => ?_) (Nat.le_refl _)
  simp only [List.mem_cons, List.not_mem_nil, or_false] at hd
  rcases hd with rfl | rfl
  · exact tm_name hx
  · exact tm_int (by omega) (by omega)
theorem YardV.bds {ts bs : List PyData} {m l : Int} (v : YardV ts bs m l) : 1 ≤ m ∧ m ≤ 100 ∧ 0 ≤ l ∧ l ≤ 9 := by
  obtain ⟨i, e, a, b⟩ := isNumD_int v.m
  cases e
  obtain ⟨j, e2, c, d⟩ := isNumD_int v.l
  cases e2
  exact ⟨a, b, c, d⟩
theorem YardV.shw {ts bs : List PyData} {m l : Int} (v : YardV ts bs m l) : Shw (.list [.list ts, .list bs, .int m, .int l]) := by
  obtain ⟨a, b, c, d⟩ := v.bds
  refine (tm_list (w := 88) (k := 2) (n := 4) (fun x hx => ?_) (Nat.le_refl _)).shw (by decide) (by decide)
  simp only [List.mem_cons, List.not_mem_nil, or_false] at hx
  rcases hx with rfl | rfl | rfl | rfl
  · exact v.tmT.mono (by decide) (by decide)
  · exact v.tmB.mono (by decide) (by decide)
  · exact (tm_int (by omega) (by omega)).mono (by decide) (by decide)
  · exact (tm_int (by omega) (by omega)).mono (by decide) (by decide)
theorem at_zero {α : Type} (x : α) (r : List α) : atI (x :: r) 0 = some x := atI_nat (j := 0) rfl
def stepOf : PyData → Int
  | .tuple [_, .int s] => s
  | _ => 0
theorem step_in : ∀ {bs : List PyData}, (∀ e ∈ bs, ∃ n s, e = .tuple [.str n, .int s]) → ((bs.map fstD).map strOf).Nodup → ∀ {n : Str} {s : Int}, PyData.tuple [.str n, .int s] ∈ bs → stepD bs (.str n) = some s
  | [], _, _, n, s, h => by simp at h
  | e :: r, hf, hd, n, s, h => by
    obtain ⟨n0, s0, rfl⟩ := hf e List.mem_cons_self
    have hd' : (n0 :: (r.map fstD).map strOf).Nodup := hd
    unfold stepD
    rw [List.findSome?_cons]
    rw [show stepOne (.str n) (.tuple [.str n0, .int s0]) = if (n0 == n) = true then some s0 else none from rfl]
    by_cases c : n0 = n
    · subst c
      rw [if_pos (by simp)]
      rcases List.mem_cons.mp h with q | q
      · cases q; rfl
      · exact absurd (List.mem_map.mpr ⟨PyData.str n0, List.mem_map.mpr ⟨_, q, rfl⟩, rfl⟩) (List.nodup_cons.mp hd').1
    · rw [if_neg (by simpa using c)]
      rcases List.mem_cons.mp h with q | q
      · cases q; exact absurd rfl c
      · exact step_in (fun e he => hf e (List.mem_cons_of_mem _ he)) (List.nodup_cons.mp hd').2 q
theorem YardV.step {ts bs : List PyData} {m l : Int} (v : YardV ts bs m l) {n : Str} {s : Int} (h : PyData.tuple [.str n, .int s] ∈ bs) : stepD bs (.str n) = some s := by
  obtain ⟨ds, e, _, _, _, h5⟩ := beamsD_seq v.bs
  cases e
  unfold namesD at h5
  rw [Bool.and_eq_true, decide_eq_true_eq] at h5
  exact step_in (fun e he => by obtain ⟨n, s, rfl, _⟩ := v.beam he; exact ⟨n, s, rfl⟩) h5.2 h
theorem YardV.noStep {ts bs : List PyData} {m l : Int} (v : YardV ts bs m l) {d : PyData} (h : ∀ x, isNameS x = true → eqS x d = false) : stepD bs d = none := by
  unfold stepD
  rw [List.findSome?_eq_none_iff]
  intro e he
  obtain ⟨n, s, rfl, hn, _⟩ := v.beam he
  show (if eqS n d = true then some s else none) = none
  rw [if_neg (by rw [h n hn]; exact Bool.false_ne_true)]
theorem eqv_refl_ints (gs : List Int) : PyData.eqv (.list (gs.map PyData.int)) (.list (gs.map PyData.int)) = true := by
  show PyData.eqvAll _ _ = true
  induction gs with
  | nil => rfl
  | cons a r ih =>
    show ((a == a) && PyData.eqvAll _ _) = true
    rw [ih, beq_self_eq_true]; rfl
theorem name_ne {x y : Str} (hx : isNameS x = true) (hy : isNameS y = false) : (x == y) = false := by
  rw [← Bool.not_eq_true]
  intro e
  rw [eq_of_beq e, hy] at hx
  cases hx
theorem long_no {x : Str} (hx : isNameS x = true) : isNameS (x ++ ("xxxxxxxx" : Str)) = false := by
  unfold isNameS
  have : (x ++ ("xxxxxxxx" : Str)).length = x.length + 8 := by
    show (x.cps ++ ("xxxxxxxx" : Str).cps).size = _
    rw [Array.size_append]; rfl
  rw [this]
  have h1 : 1 ≤ x.length := by
    unfold isNameS at hx
    simp only [Bool.and_eq_true, decide_eq_true_eq] at hx
    exact hx.1.1
  rw [decide_eq_false (show ¬ x.length + 8 ≤ 8 by omega)]; simp
theorem tm_long {x : Str} (hx : isNameS x = true) : Tm 20 0 (.str (x ++ ("xxxxxxxx" : Str))) := by
  obtain ⟨a, b⟩ := name_short hx
  have e : (x ++ ("xxxxxxxx" : Str)).cps = x.cps ++ ("xxxxxxxx" : Str).cps := rfl
  refine ⟨rfl, ?_, ?_, Nat.le_refl _⟩
  · show ((x ++ ("xxxxxxxx" : Str)).cps.toList.all fun c => decide (c < 16 ^ 8)) = true
    rw [e, Array.toList_append, List.all_append, Bool.and_eq_true]
    refine ⟨?_, by decide +kernel⟩
    rw [List.all_eq_true] at b ⊢
    intro c hc
    exact decide_eq_true (Nat.lt_trans (of_decide_eq_true (b c hc)) (by decide))
  · show (x ++ ("xxxxxxxx" : Str)).cps.size ≤ 20
    rw [e, Array.size_append]
    have h8 : ("xxxxxxxx" : Str).cps.size = 8 := rfl
    have : x.length = x.cps.size := rfl
    omega
def tellOdds (e : PyData) (x : Str) : List PyData := [.none, .str "", .str "Q", .int 5, .bool true, .list [], .dict [], e, .list [.str x], .str (x ++ ("xxxxxxxx" : Str))]
theorem tellOdds_ok {ts bs : List PyData} {m l : Int} (v : YardV ts bs m l) {x : Str} {s : Int} (h : PyData.tuple [.str x, .int s] ∈ bs) : ∀ d ∈ tellOdds (.tuple [.str x, .int s]) x, stepD bs d = none ∧ Shw d := by
  obtain ⟨n, s', e, hn, s0, s1, _⟩ := v.beam h
  cases e
  intro d hd
  unfold tellOdds at hd
  simp only [List.mem_cons, List.not_mem_nil, or_false] at hd
  rcases hd with rfl | rfl | rfl | rfl | rfl | rfl | rfl | rfl | rfl | rfl
  · exact ⟨v.noStep fun _ _ => rfl, (tm_of (w := 10) (k := 1) (by decide +kernel)).shw (by decide) (by decide)⟩
  · exact ⟨v.noStep fun y hy => name_ne hy (by decide +kernel), (tm_of (w := 10) (k := 1) (by decide +kernel)).shw (by decide) (by decide)⟩
  · exact ⟨v.noStep fun y hy => name_ne hy (by decide +kernel), (tm_of (w := 10) (k := 1) (by decide +kernel)).shw (by decide) (by decide)⟩
  · exact ⟨v.noStep fun _ _ => rfl, (tm_of (w := 10) (k := 1) (by decide +kernel)).shw (by decide) (by decide)⟩
  · exact ⟨v.noStep fun _ _ => rfl, (tm_of (w := 10) (k := 1) (by decide +kernel)).shw (by decide) (by decide)⟩
  · exact ⟨v.noStep fun _ _ => rfl, (tm_of (w := 10) (k := 1) (by decide +kernel)).shw (by decide) (by decide)⟩
  · exact ⟨v.noStep fun _ _ => rfl, (tm_of (w := 10) (k := 1) (by decide +kernel)).shw (by decide) (by decide)⟩
  · refine ⟨v.noStep fun _ _ => rfl, (tm_tuple (w := 10) (k := 0) (n := 2) (fun d hd => ?_) (Nat.le_refl _)).shw (by decide) (by decide)⟩
    simp only [List.mem_cons, List.not_mem_nil, or_false] at hd
    rcases hd with rfl | rfl
    · exact tm_name hn
    · exact tm_int (by omega) (by omega)
  · refine ⟨v.noStep fun _ _ => rfl, (tm_list (w := 10) (k := 0) (n := 1) (fun d hd => ?_) (Nat.le_refl _)).shw (by decide) (by decide)⟩
    rw [List.mem_singleton.mp hd]
    exact tm_name hn
  · exact ⟨v.noStep fun y hy => name_ne hy (long_no hn), (tm_long hn).shw (by decide) (by decide)⟩
section
variable {P : Program} {w : World} {K : PySem.W.Frag} {mg : Str → Option Value} {base : Heap} {CY CB fTh fBm fMo fLe fS fP fB : Addr} {dTh dBm dMo dLe dS dP_ dB : FuncData}
theorem scTells : FnScope ["state", "yard", "row", "names", "pairs", "heavy", "slant", "turn", "told", "odd", "name", "step"] ["state", "yard", "row"] (defScope sTells) := ⟨rfl, rfl, rfl, by decide +kernel, rfl, by decide +kernel, by decide +kernel⟩
theorem ok_tells {f : Addr} {fd : FuncData} {gS : List Value → List Value → List Value} (F : Fun K "_law_tells" "_law_tells" sTells f fd) (T : TxtT K mg CY fTh fBm fMo fLe fS fP fB) (GTh : FnOk P w K mg base CX0 1 fTh dTh ["self"] (spThs CY)) (bTh : Binds K dTh ["self"] []) (GBm : FnOk P w K mg base CX0 1 fBm dBm ["self"] (spBms CY)) (bBm : Binds K dBm ["self"] [])
    (GMo : FnOk P w K mg base CX0 1 fMo dMo ["self"] (spMost CY)) (bMo : Binds K dMo ["self"] []) (GLe : FnOk P w K mg base CX0 1 fLe dLe ["self"] (spLean CY)) (bLe : Binds K dLe ["self"] []) (GS : FnOk P w K mg base (L2.CX P w) 3 fS dS ["self", "beam"] (spStep CY CB)) (bS : KBn K dS ["self", "beam"] 1 ["beam"] gS (fun vs zs => vs ++ zs))
    (GP : FnOk P w K mg base CX0 2 fP dP_ ["state", "some"] (spPick K)) (bP : Binds K dP_ ["state", "some"] []) (GB : WG P w K mg base CX0 4 fB dB ["yard", "item"] (spNoB CY)) (bB : Binds K dB ["yard", "item"] []) :
    WG P w K mg base CX0 5 f fd ["state", "yard", "row"] (spTells CY) := by
  refine fun_wg F scTells (fun vs H Q E h => ?_) (fun cdv A outer s H vs Q E hgu hr h => ?_)
  · obtain ⟨_, _, _, _, _, _, _, _, _, _, _, _, _, rfl, _⟩ := h; rfl
  · obtain ⟨st, gl, cl, p, r, n, N, dN, dP, ts, bs, m, l, rfl, hL, hn, hD, hrow, eN, eP, hy, hv, k⟩ := h
    have hg2 : (A.deeper (envOfC "_law_tells" (defScope sTells) s.heap.objs.size f cdv)).guards = some [] := hgu
    have hr1 : Room 1 _ := hr.mono (by decide)
    have hr2 : Room 2 _ := hr.mono (by decide)
    have hr3 : Room 3 _ := hr.mono (by decide)
    refine ⟨_, PSs.nox (pss_cons (ps_asg (pe_tup (pa_cons (pe_callTy call_lstD (by rfl) T.nlst (by decide +kernel) (pa_cons (pe_ix ix_list (pv 2) pe_int (fun _ _ => rfl)) pa_nil)) (pa_cons (pe_callTy call_lstD (by rfl) T.nlst (by decide +kernel) (pa_cons (pe_ix ix_list (pv 2) pe_int (fun _ _ => rfl)) pa_nil))
          (pa_cons (pe_ix ix_list (pv 2) pe_int (fun _ _ => rfl)) (pa_cons (pe_ix ix_list (pv 2) pe_int (fun _ _ => rfl)) pa_nil)))))
        (pg_tup rfl (pgs_cons (pg_name (i := 3) scTells.nd rfl (Or.inl rfl)) (pgs_cons (pg_name (i := 4) scTells.nd rfl (Or.inl rfl)) (pgs_cons (pg_name (i := 5) scTells.nd rfl (Or.inl rfl)) (pgs_cons (pg_name (i := 6) scTells.nd rfl (Or.inl rfl)) pgs_nil))))))
      (pss_cons (ps_for PassesOwn.never rfl (pi_range1 (by rfl) T.nrange (pa_cons pe_int pa_nil)) (pg_name (i := 7) scTells.nd rfl (Or.inl rfl))
        (pss_cons (ps_set (i := 8) scTells.nd rfl (Or.inl rfl) (pe_lst (pa_cons (pe_meth0 (pv 1) T.tm.clY T.mTh GTh hr1 bTh .nil pass0) (pa_cons (pe_meth0 (pv 1) T.tm.clY T.mBm GBm hr1 bBm .nil pass0) (pa_cons (pe_meth0 (pv 1) T.tm.clY T.mMo GMo hr1 bMo .nil pass0) (pa_cons (pe_meth0 (pv 1) T.tm.clY T.mLe GLe hr1 bLe .nil pass0) pa_nil))))))
        (pss_cons (ps_if (pt_cmpR op_ne (pe_callB (call_reprD hg2 hr T.hsys) (by rfl) T.nrepr (by decide +kernel) (pa_cons (pv 8) pa_nil)) (pe_callB (call_reprD hg2 hr T.hsys) (by rfl) T.nrepr (by decide +kernel) (pa_cons (pe_lst (pa_cons (pv 3) (pa_cons (pv 4) (pa_cons (pv 5) (pa_cons (pv 6) pa_nil))))) pa_nil)) (nomark _))
          (pss_one (ps_ret pe_bl)) pss_nil)
        (pss_cons (ps_expr (pe_bm PySem.F.plainAttrs_list PySem.F.slot_list_append PySem.F.type_list_append mt_append (pe_ix ix_list (pv 8) pe_int (fun _ _ => rfl)) (pa_cons pe_str pa_nil)))
        (pss_one (ps_expr (pe_bm0 PySem.F.plainAttrs_list PySem.F.slot_list_clear PySem.F.type_list_clear mt_clear (pe_ix ix_list (pv 8) pe_int (fun _ _ => rfl)))))))))
      (pss_cons (ps_if (pt_cmpR (op_neD hr.units)
          (pe_lc (own := [("name", 10), ("step", 11)]) (g := gTup K 2 (gCons (gName 10) (gCons (gName 11) gNil))) (tt := tYes) rfl scTells.nd (pi_list (pv 4)) (blkOk_by (own := [("name", 10), ("step", 11)]) (N := ["state", "yard", "row", "names", "pairs", "heavy", "slant", "turn", "told", "odd", "name", "step"]) (sc := defScope sTells) (by decide +kernel))
            (fun _ _ _ _ _ => pg_tup rfl (pgs_cons (pg_name (i := 10) scTells.nd rfl (Or.inl rfl)) (pgs_cons (pg_name (i := 11) scTells.nd rfl (Or.inl rfl)) pgs_nil))) (fun _ _ _ _ _ => pts_nil)
            (fun _ _ _ _ _ => by exact pe_methK (ks := ["beam"]) (E := E0) (pv 1) T.tm.clY T.mS GS hr3 bS (passes_call (W := fun _ _ _ _ => False) takes0 (fun _ _ _ _ h => h)) (pk_cons (pv 10) pk_nil)))
          (pe_lc (own := [("name", 10), ("step", 11)]) (g := gTup K 2 (gCons (gName 10) (gCons (gName 11) gNil))) (tt := tYes) rfl scTells.nd (pi_list (pv 4)) (blkOk_by (own := [("name", 10), ("step", 11)]) (N := ["state", "yard", "row", "names", "pairs", "heavy", "slant", "turn", "told", "odd", "name", "step"]) (sc := defScope sTells) (by decide +kernel))
            (fun _ _ _ _ _ => pg_tup rfl (pgs_cons (pg_name (i := 10) scTells.nd rfl (Or.inl rfl)) (pgs_cons (pg_name (i := 11) scTells.nd rfl (Or.inl rfl)) pgs_nil))) (fun _ _ _ _ _ => pts_nil)
            (fun _ _ _ _ _ => pv 11)) (nomark _)) (pss_one (ps_ret pe_bl)) pss_nil)
      (pss_cons (ps_set (i := 9) scTells.nd rfl (Or.inl rfl) (pe_call GP hr2 rfl T.gP T.kP bP .nil pass0 (pa_cons (pv 0) (pa_cons (pe_lst (pa_cons pe_non (pa_cons pe_str (pa_cons pe_str (pa_cons pe_int (pa_cons pe_bl (pa_cons (pe_lst pa_nil) (pa_cons pe_dnewK (pa_cons (pe_ix ix_list (pv 4) pe_int (fun _ _ => rfl))
          (pa_cons (pe_lst (pa_cons (pe_ix ix_tup (pe_ix ix_list (pv 4) pe_int (fun _ _ => rfl)) pe_int (fun _ _ => rfl)) pa_nil)) (pa_cons (pe_op op_add_str (pe_ix ix_tup (pe_ix ix_list (pv 4) pe_int (fun _ _ => rfl)) pe_int (fun _ _ => rfl)) (pe_op op_repC pe_str pe_int)) pa_nil))))))))))) pa_nil))))
      (pss_one (ps_ret (pe_callWG GB hg2 hr rfl T.gB T.kB bB pass0 (pa_cons (pv 1) (pa_cons (pv 9) pa_nil))))))))), ?_⟩
    cases hrow with
    | lst w1 w2 =>
      match w2 with
      | .cons (v := vN) xN (.cons (v := vP) xP (.cons xM (.cons xL .nil))) =>
        cases xM; cases xL
        obtain ⟨nr, w1⟩ := cut_in w1
        have hN := xN.same cut_same
        have hP := xP.same cut_same
        have hyH := hy.same cut_same
        refine ⟨_, rfl, r, _, _, _, rfl, rfl, SqL.of w1, rfl, vN, dN, ts, rfl, hN, eN, fun n0 xs hn0 hx => ?_⟩
        have s1 : Same H (upd H n0 (.lst xs)) := Same.new hn0
        refine ⟨_, rfl, r, _, _, _, rfl, rfl, SqL.of (s1 _ _ w1), rfl, vP, dP, bs, rfl, hP.same s1, eP, fun p0 ys hp0 hys => ?_⟩
        have s2 := s1.trans (Same.new (o := .lst ys) hp0)
        refine ⟨_, rfl, r, _, _, _, rfl, rfl, SqL.of (s2 _ _ w1), rfl, _, rfl, r, _, _, _, rfl, rfl, SqL.of (s2 _ _ w1), rfl, show 4 ≤ sizeLine by decide +kernel, fun tp htp => ?_⟩
        refine ⟨tp, _, rfl, SqT.of upd_same, rfl, _, _, rfl, _, _, rfl, _, _, rfl, _, _, rfl, rfl, ?_⟩
        have s3 := s2.trans (Same.new (o := .tup [.ref n0, .ref p0, .int m, .int l]) htp)
        have n03 : upd (upd (upd H n0 (.lst xs)) p0 (.lst ys)) tp (.tup [.ref n0, .ref p0, .int m, .int l]) n0 = some (.lst xs) := Same.new htp _ _ (Same.new hp0 _ _ upd_same)
        have p03 : upd (upd (upd H n0 (.lst xs)) p0 (.lst ys)) tp (.tup [.ref n0, .ref p0, .int m, .int l]) p0 = some (.lst ys) := Same.new htp _ _ upd_same
        have fp0 : H p0 = none := s1.free hp0
        have sa1 : Same (upd H n0 (.lst xs)) (upd (upd (upd H n0 (.lst xs)) p0 (.lst ys)) tp (.tup [.ref n0, .ref p0, .int m, .int l])) := (Same.new hp0).trans (Same.new htp)
        generalize upd (upd (upd H n0 (.lst xs)) p0 (.lst ys)) tp (.tup [.ref n0, .ref p0, .int m, .int l]) = Ha at s3 n03 p03 sa1
        have hya := hyH.same s3
        have hxa := hx.same s3
        have hysa := hys.same sa1
        have D3 : Dx Ha (.ref n0) (.list ts) := .lst n03 hxa
        refine ⟨2, rfl, by decide, by decide, for_range (fun i σ H' => Same Ha H' ∧ ∃ z y, σ = [some (.ref st), some (.ref p), some (.ref r), some (.ref n0), some (.ref p0), some (.int m), some (.int l), z, y, none, none, none]) ⟨Same.refl _, none, none, rfl⟩ ?_ ?_⟩
        · rintro i σ H4 hi ⟨s4, z, y, rfl⟩
          have y4 := hya.same s4
          obtain ⟨dx, ta, tb, hp4, hta, htb⟩ := id y4
          have no : ∀ {x : Str}, ¬ x = "_things" → ¬ x = "_beams" → ¬ x = "_most" → ¬ x = "_lean" → (yf ta tb m l).lookup x = none := fun a b c d => yf_no a b c d
          refine ⟨_, rfl, p, dx, _, rfl, hp4, no (by decide +kernel) (by decide +kernel) (by decide +kernel) (by decide +kernel), p, ts, bs, m, l, rfl, y4, fun a0 xs0 ha0 hx0 => ?_⟩
          have t1 : Same H4 (upd H4 a0 (.lst xs0)) := Same.new ha0
          refine ⟨_, rfl, p, dx, _, rfl, t1 _ _ hp4, no (by decide +kernel) (by decide +kernel) (by decide +kernel) (by decide +kernel), p, ts, bs, m, l, rfl, y4.same t1, fun a1 xs1 ha1 hx1 => ?_⟩
          have t12 : Same (upd H4 a0 (.lst xs0)) (upd (upd H4 a0 (.lst xs0)) a1 (.lst xs1)) := Same.new ha1
          have t2 := t1.trans t12
          have na01 : a0 ≠ a1 := fun e => by rw [← e, upd_same] at ha1; cases ha1
          have g0 : upd (upd H4 a0 (.lst xs0)) a1 (.lst xs1) a0 = some (.lst xs0) := t12 _ _ upd_same
          have g1 : upd (upd H4 a0 (.lst xs0)) a1 (.lst xs1) a1 = some (.lst xs1) := upd_same
          generalize upd (upd H4 a0 (.lst xs0)) a1 (.lst xs1) = H5 at t12 t2 g0 g1
          refine ⟨_, rfl, p, dx, _, rfl, t2 _ _ hp4, no (by decide +kernel) (by decide +kernel) (by decide +kernel) (by decide +kernel), p, ts, bs, m, l, rfl, y4.same t2, ?_⟩
          refine ⟨_, rfl, p, dx, _, rfl, t2 _ _ hp4, no (by decide +kernel) (by decide +kernel) (by decide +kernel) (by decide +kernel), p, ts, bs, m, l, rfl, y4.same t2, ?_⟩
          refine ⟨show 4 ≤ sizeLine by decide +kernel, fun tl htl => ?_⟩
          have t5 : Same H5 (upd H5 tl (.lst [.ref a0, .ref a1, .int m, .int l])) := Same.new htl
          have t4 := t2.trans t5
          have D4 : Dx (upd H5 tl (.lst [.ref a0, .ref a1, .int m, .int l])) (.ref tl) (.list [.list ts, .list bs, .int m, .int l]) := .lst upd_same (.cons (.lst (t5 _ _ g0) (hx0.same t4)) (.cons (.lst (t5 _ _ g1) (hx1.same (t12.trans t5))) (.cons (.int _) (.cons (.int _) .nil))))
          have gl_ : upd H5 tl (.lst [.ref a0, .ref a1, .int m, .int l]) tl = some (.lst [.ref a0, .ref a1, .int m, .int l]) := upd_same
          have g0' := t5 _ _ g0
          have g1' := t5 _ _ g1
          have nt0 : tl ≠ a0 := fun e => by rw [e, g0] at htl; cases htl
          have nt1 : tl ≠ a1 := fun e => by rw [e, g1] at htl; cases htl
          have ftl : H4 tl = none := t2.free htl
          have fa1 : H4 a1 = none := t1.free ha1
          generalize upd H5 tl (.lst [.ref a0, .ref a1, .int m, .int l]) = H6 at t4 D4 gl_ g0' g1'
          have sa6 := s4.trans t4
          refine ⟨_, rfl, .ref tl, _, rfl, D4, hv.shw, _, rfl, _, rfl, _, rfl, _, rfl, show 4 ≤ sizeLine by decide +kernel, fun t2_ ht2 => ?_⟩
          have u6 : Same H6 (upd H6 t2_ (.lst [.ref n0, .ref p0, .int m, .int l])) := Same.new ht2
          refine ⟨.ref t2_, .list [.list ts, .list bs, .int m, .int l], rfl, .lst upd_same (.cons (.lst (u6 _ _ (sa6 _ _ n03)) (hxa.same (sa6.trans u6))) (.cons (.lst (u6 _ _ (sa6 _ _ p03)) (hysa.same (sa6.trans u6))) (.cons (.int _) (.cons (.int _) .nil)))), hv.shw, rfl, _, rfl, ?_⟩
          rw [show (!decide (V.str (PyData.shown (.list [.list ts, .list bs, .int m, .int l])) = V.str (PyData.shown (.list [.list ts, .list bs, .int m, .int l])))) = false by rw [decide_eq_true rfl]; rfl]
          refine iteF ?_
          have gl7 := u6 _ _ gl_
          have g07 := u6 _ _ g0'
          have g17 := u6 _ _ g1'
          refine ⟨_, rfl, tl, _, _, _, rfl, rfl, SqL.of gl7, rfl, .inl ⟨rfl, _, SqL.of g07⟩, a0, _, _, rfl, rfl, g07, ?_, ?_⟩
          · rw [hx0.len]
            obtain ⟨ds, e, _, h8, _⟩ := thingsD_seq hv.ts
            cases e
            exact Nat.lt_of_le_of_lt h8 (by decide +kernel)
          refine ⟨_, rfl, tl, [.ref a0, .ref a1, .int m, .int l], 1, .ref a1, rfl, rfl, SqL.of (by rw [upd_ne nt0]; exact gl7), rfl, .inl ⟨rfl, _, SqL.of (by rw [upd_ne na01.symm]; exact g17)⟩, a1, _, rfl, rfl, by rw [upd_ne na01.symm]; exact g17, ?_⟩
          refine ⟨s4.trans fun b o e => ?_, _, _, rfl⟩
          rw [upd_ne (ne_of_none e fa1), upd_ne (ne_of_none e ha0)]
          exact u6 _ _ (t4 _ _ e)
        · rintro σ H4 ⟨s4, z, y, rfl⟩
          have y4 := hya.same s4
          obtain ⟨dx, ta, tb, hp4, hta, htb⟩ := id y4
          have no : ∀ {x : Str}, ¬ x = "_things" → ¬ x = "_beams" → ¬ x = "_most" → ¬ x = "_lean" → (yf ta tb m l).lookup x = none := fun a b c d => yf_no a b c d
          have p04 := s4 _ _ p03
          have hys4 := hysa.same s4
          have hyl := hys4.len
          have hb3 : bs.length ≤ 3 := by
            obtain ⟨ds, e, _, h3, _⟩ := beamsD_seq hv.bs
            cases e; exact h3
          refine ⟨_, rfl, p0, rfl, ⟨_, SqL.of p04⟩, fun D1 hD1 => lc_list (K := K) (a := p0) (xs := ys) (fun i H' => Same H4 H' ∧ H' D1 = some (.lst (((bs.take i).map stepOf).map V.int))) ⟨Same.new hD1, upd_same⟩ (fun i H' _ h => h.1.seq (SqL.of p04)) ?_ ?_⟩
          · rintro i yy H' hi ⟨sm, hl⟩
            obtain ⟨e, he, hyy⟩ := hys4.get hi
            have hem := List.mem_of_getElem? he
            obtain ⟨x, sx, rfl, hx_, _⟩ := hv.beam hem
            cases hyy with
            | tup q1 q2 =>
              match q2 with
              | .cons b1 (.cons b2 .nil) =>
                cases b1; cases b2
                refine ⟨_, _, rfl, SqT.of (sm _ _ q1), rfl, _, _, rfl, _, _, rfl, rfl, rfl, ?_⟩
                refine yes ?_
                refine ⟨_, rfl, p, dx, _, rfl, sm _ _ hp4, no (by decide +kernel) (by decide +kernel) (by decide +kernel) (by decide +kernel), _, rfl, rfl, p, ts, bs, m, l, .str x, .str x, rfl, y4.same sm, hv, .str x, fun s' e => ?_, fun e => by rw [hv.step hem] at e; cases e⟩
                rw [hv.step hem] at e
                cases e
                refine ⟨_, hl, ?_, fun b o z => ?_, ?_⟩
                · rw [List.length_map, List.length_map, List.length_take]
                  exact Nat.lt_of_le_of_lt (show min i bs.length ≤ 3 by omega) (by decide +kernel)
                · rw [upd_ne (ne_of_none z hD1)]; exact sm _ _ z
                · rw [upd_same, List.take_succ, he]
                  simp [stepOf]
          · rintro H5 ⟨s5, hl⟩
            rw [hyl, List.take_length] at hl
            have p05 := s5 _ _ p04
            have hys5 := hys4.same s5
            refine ⟨_, rfl, p0, rfl, ⟨_, SqL.of p05⟩, fun D2 hD2 => lc_list (K := K) (a := p0) (xs := ys) (fun i H' => Same H5 H' ∧ H' D2 = some (.lst (((bs.take i).map stepOf).map V.int))) ⟨Same.new hD2, upd_same⟩ (fun i H' _ h => h.1.seq (SqL.of p05)) ?_ ?_⟩
            · rintro i yy H' hi ⟨sm, hl⟩
              obtain ⟨e, he, hyy⟩ := hys5.get hi
              have hem := List.mem_of_getElem? he
              obtain ⟨x, sx, rfl, hx_, _⟩ := hv.beam hem
              cases hyy with
              | tup q1 q2 =>
                match q2 with
                | .cons b1 (.cons b2 .nil) =>
                  cases b1; cases b2
                  refine ⟨_, _, rfl, SqT.of (sm _ _ q1), rfl, _, _, rfl, _, _, rfl, rfl, rfl, ?_⟩
                  refine yes ?_
                  refine ⟨_, rfl, _, hl, ?_, fun b o z => ?_, ?_⟩
                  · rw [List.length_map, List.length_map, List.length_take]
                    exact Nat.lt_of_le_of_lt (show min i bs.length ≤ 3 by omega) (by decide +kernel)
                  · rw [upd_ne (ne_of_none z hD2)]; exact sm _ _ z
                  · rw [upd_same, List.take_succ, he]
                    simp [stepOf]
            · rintro H6 ⟨s6, hl6⟩
              rw [hyl, List.take_length] at hl6
              have e1 : ((bs.map stepOf).map V.int) = ((bs.map stepOf).map V.int) := rfl
              refine ⟨.list ((bs.map stepOf).map PyData.int), .list ((bs.map stepOf).map PyData.int), .lst (SqL.of (s6 _ _ hl)) (ints_dp _), .lst (SqL.of hl6) (ints_dp _), ints_shaped _, ints_shaped _, _, rfl, ?_⟩
              rw [eqv_refl_ints]
              refine iteF ?_
              have s36 := (s3.trans s4).trans (s5.trans s6)
              have L6 := hL.same s36
              have p06 := s6 _ _ p05
              have hys6 := hys5.same s6
              have hb1 : 1 ≤ bs.length := by
                obtain ⟨ds, e, h1, _, _⟩ := beamsD_seq hv.bs
                cases e; exact h1
              match bs, ys, hys6, hv, hb1 with
              | e0 :: br, y0 :: yr, .cons hy0 hyr, hv, _ =>
                obtain ⟨x0, st0, rfl, hx0, _⟩ := hv.beam (List.mem_cons_self (a := e0))
                cases hy0 with
                | tup q1 q2 =>
                  rename_i q qs_
                  match q2 with
                  | .cons b1 (.cons b2 .nil) =>
                    cases b1; cases b2
                    have nq : ¬ N3 st gl cl q := fun z => by
                      obtain ⟨⟨d, gs, cs, t, a1, a2, a3, _⟩, _⟩ := L6
                      rcases z with z | z | z
                      · rw [z, a1] at q1; cases q1
                      · rw [z, a2] at q1; cases q1
                      · rw [z, a3] at q1; cases q1
                    have S6 : Std (N3 st gl cl) H6 := fun b hb => L6.has hb
                    have X0 : Dx (cut (N3 st gl cl) H6) (.ref q) (.tuple [.str x0, .int st0]) := .tup (cutAt nq q1) (.cons (.str _) (.cons (.int _) .nil))
                    have at0 : Wb.Rd (N3 st gl cl) (tOp (rIxL K) (tVar 4) (tC (.int 0))) [some (.ref st), some (.ref p), some (.ref r), some (.ref n0), some (.ref p0), some (.int m), some (.int l), z, y, none, none, none] H6 (.tuple [.str x0, .int st0]) := fun H1 s_ Q kk =>
                      ⟨_, rfl, p0, .ref q :: yr, 0, .ref q, rfl, rfl, SqL.of (s_ _ _ p06), at_zero _ _, kk _ H1 (Same.refl _) (X0.same (sameCut s_))⟩
                    have at00 : Wb.Rd (N3 st gl cl) (tOp (rIxT K) (tOp (rIxL K) (tVar 4) (tC (.int 0))) (tC (.int 0))) [some (.ref st), some (.ref p), some (.ref r), some (.ref n0), some (.ref p0), some (.int m), some (.int l), z, y, none, none, none] H6 (.str x0) := fun H1 s_ Q kk =>
                      ⟨_, rfl, p0, .ref q :: yr, 0, .ref q, rfl, rfl, SqL.of (s_ _ _ p06), at_zero _ _, q, _, 0, .str x0, rfl, rfl, SqT.of (s_ _ _ q1), rfl, kk _ H1 (Same.refl _) (.str x0)⟩
                    have x8 := (name_short hx0).1
                    refine rd_pick (N := N3 st gl cl) rfl L6 (by omega) (rdm_lst (rda_cons rd_non (rda_cons rd_str (rda_cons rd_str (rda_cons rd_int (rda_cons rd_bl (rda_cons (rd_lst S6 rda_nil (by decide)) (rda_cons (rd_dict0 S6) (rda_cons at0 (rda_cons (rd_lst S6 (rda_cons at00 rda_nil) (by show 1 ≤ 1000; decide))
                      (rda_cons (rd_op (f := .str (x0 ++ ("xxxxxxxx" : Str))) (e := .str "xxxxxxxx") at00 (fun H1 s_ Q kk => ⟨120, 8, rfl, rfl, by decide, by decide, by decide +kernel, kk _ H1 (Same.refl _) (.str _)⟩) fun H x y s hx hy Q kk => by
                        cases hx; cases hy
                        exact ⟨_, _, rfl, rfl, (by show x0.length + 8 ≤ sizeLine; exact Nat.le_trans (show x0.length + 8 ≤ 16 by omega) (by decide +kernel)), kk _ _ (Same.refl _) (.str _)⟩) rda_nil)))))))))) (by show 10 ≤ 1000; decide)) (by simp) (by show 10 ≤ 1000; decide) (fun b hb => hb) fun d v H7 hd L7 k7 xd => ?_
                    have hd' : d ∈ tellOdds (.tuple [.str x0, .int st0]) x0 := hd
                    obtain ⟨ns_, shd⟩ := tellOdds_ok hv List.mem_cons_self d hd'
                    have y6 := (y4.same (s5.trans s6))
                    have y7 : YardAt CY H7 p ts (.tuple [.str x0, .int st0] :: br) m l := by
                      have : Same (cut N H) (cut N H7) := (keptMono hD.2 ((Same.kept s36).trans k7)).cut
                      exact (hy.same this).same cut_same
                    refine ⟨_, rfl, _, rfl, p, ts, _, m, l, v, d, rfl, y7, hv, xd.same cut_same, ns_, shd, fun H8 s8 => ?_⟩
                    exact k H8 (L7.same s8) (((Same.kept s36).trans k7).trans (Same.kept s8))
end
end L2.K01
/-! K01s -/
set_option Elab.async false
set_option linter.all false
set_option maxRecDepth 100000
set_option maxHeartbeats 4000000
namespace L2.K01
open PySem PySem.Spec PyProof.Rows L2.Wb
/-! ### yards by texts and pairs -/
structure VN (ns : List Str) (prs : List (Str × Int)) (m l : Int) : Prop where
  n1 : 1 ≤ ns.length
  n8 : ns.length ≤ 8
  nn : ∀ x ∈ ns, isNameS x = true
  nd : ns.Nodup
  p1 : 1 ≤ prs.length
  p3 : prs.length ≤ 3
  pn : ∀ p ∈ prs, isNameS p.1 = true ∧ -5 ≤ p.2 ∧ p.2 ≤ 5 ∧ p.2 ≠ 0
  pd : (prs.map (·.1)).Nodup
  m1 : 1 ≤ m
  m2 : m ≤ 100
  l0 : 0 ≤ l
  l9 : l ≤ 9
  few : fewN prs.length l = true
theorem strs_of : ∀ {ds : List PyData}, ds.all isNameD = true → ∃ ns : List Str, ds = ns.map PyData.str ∧ (∀ x ∈ ns, isNameS x = true) ∧ ds.map strOf = ns
  | [], _ => ⟨[], rfl, by simp, rfl⟩
  | d :: r, h => by
    rw [List.all_cons, Bool.and_eq_true] at h
    obtain ⟨ns, e, hn, es⟩ := strs_of h.2
    match d, h.1 with
    | .str x, hx =>
      refine ⟨x :: ns, by rw [e]; rfl, fun y hy => ?_, by rw [List.map_cons, es]; rfl⟩
      rcases List.mem_cons.mp hy with rfl | hy
      · exact hx
      · exact hn y hy
theorem pairs_of' : ∀ {ds : List PyData}, ds.all beamD = true → (ds.map fstD).all isNameD = true → ∃ prs : List (Str × Int), ds = prs.map pairD ∧ (∀ p ∈ prs, isNameS p.1 = true ∧ -5 ≤ p.2 ∧ p.2 ≤ 5 ∧ p.2 ≠ 0) ∧ (ds.map fstD).map strOf = prs.map (·.1)
  | [], _, _ => ⟨[], rfl, by simp, rfl⟩
  | d :: r, h1, h2 => by
    rw [List.all_cons, Bool.and_eq_true] at h1
    rw [List.map_cons, List.all_cons, Bool.and_eq_true] at h2
    obtain ⟨prs, e, hp, es⟩ := pairs_of' h1.2 h2.2
    obtain ⟨n, s, rfl, a, b, c, z⟩ := beam_form h1.1 h2.1
    refine ⟨(n, s) :: prs, by rw [e]; rfl, fun p hp' => ?_, by rw [List.map_cons, List.map_cons, es]; rfl⟩
    rcases List.mem_cons.mp hp' with rfl | hp'
    · exact ⟨a, b, c, z⟩
    · exact hp p hp'
theorem vn_of {ts bs : List PyData} {m l : Int} (v : YardV ts bs m l) (f : fewN bs.length l = true) : ∃ ns prs, ts = ns.map PyData.str ∧ bs = prs.map pairD ∧ VN ns prs m l := by
  obtain ⟨ds, e, a1, a2, a3⟩ := thingsD_seq v.ts
  cases e
  obtain ⟨es, e, b1, b2, b3, b4⟩ := beamsD_seq v.bs
  cases e
  unfold namesD at a3 b4
  rw [Bool.and_eq_true, decide_eq_true_eq] at a3 b4
  obtain ⟨ns, rfl, hn, en⟩ := strs_of a3.1
  obtain ⟨prs, rfl, hp, ep⟩ := pairs_of' b3 b4.1
  obtain ⟨c1, c2, c3, c4⟩ := v.bds
  rw [List.length_map] at a1 a2 b1 b2 f
  exact ⟨ns, prs, rfl, rfl, a1, a2, hn, by rw [← en]; exact a3.2, b1, b2, hp, by rw [← ep]; exact b4.2, c1, c2, c3, c4, f⟩
theorem names_all {ns : List Str} (h : ∀ x ∈ ns, isNameS x = true) : (ns.map PyData.str).all isNameD = true := by
  rw [List.all_eq_true]
  intro d hd
  obtain ⟨x, hx, rfl⟩ := List.mem_map.mp hd
  exact h x hx
theorem strOf_map (ns : List Str) : (ns.map PyData.str).map strOf = ns := by
  rw [List.map_map]
  exact (List.map_congr_left fun x _ => rfl).trans (List.map_id ns)
theorem fst_map (prs : List (Str × Int)) : (prs.map pairD).map fstD = (prs.map (·.1)).map PyData.str := by
  rw [List.map_map, List.map_map]
  rfl
theorem VN.yard {ns : List Str} {prs : List (Str × Int)} {m l : Int} (v : VN ns prs m l) : yardD (.list (ns.map PyData.str)) (.list (prs.map pairD)) (.int m) (.int l) = true := by
  have h1 : thingsD (.list (ns.map PyData.str)) = true := by
    show (decide (1 ≤ (ns.map PyData.str).length) && decide ((ns.map PyData.str).length ≤ 8) && namesD (ns.map PyData.str)) = true
    unfold namesD
    rw [List.length_map, decide_eq_true v.n1, decide_eq_true v.n8, names_all v.nn, strOf_map, decide_eq_true v.nd]
    rfl
  have h2 : beamsD (.list (prs.map pairD)) = true := by
    show (decide (1 ≤ (prs.map pairD).length) && decide ((prs.map pairD).length ≤ 3) && ((prs.map pairD).all beamD && namesD ((prs.map pairD).map fstD))) = true
    unfold namesD
    rw [List.length_map, decide_eq_true v.p1, decide_eq_true v.p3, fst_map, names_all (fun x hx => by obtain ⟨p, hp, rfl⟩ := List.mem_map.mp hx; exact (v.pn p hp).1), strOf_map, decide_eq_true v.pd]
    have : (prs.map pairD).all beamD = true := by
      rw [List.all_eq_true]
      intro d hd
      obtain ⟨p, hp, rfl⟩ := List.mem_map.mp hd
      obtain ⟨_, a, b, c⟩ := v.pn p hp
      show ((decide (-5 ≤ p.2) && decide (p.2 ≤ 5)) && !(decide (0 ≤ p.2) && decide (p.2 ≤ 0))) = true
      rw [decide_eq_true a, decide_eq_true b]
      by_cases z : 0 ≤ p.2
      · rw [decide_eq_true z, decide_eq_false (by omega)]; rfl
      · rw [decide_eq_false z]; rfl
    rw [this]
    rfl
  unfold yardD
  rw [h1, h2]
  show (true && (true && ((decide (1 ≤ m) && decide (m ≤ 100)) && ((decide (0 ≤ l) && decide (l ≤ 9)) && fewN (prs.map pairD).length l)))) = true
  rw [decide_eq_true v.m1, decide_eq_true v.m2, decide_eq_true v.l0, decide_eq_true v.l9, List.length_map, v.few]
  rfl
theorem yardV_of {dT dB : PyData} {ts bs : List PyData} {m l : Int} (h : yardD dT dB (.int m) (.int l) = true) (e1 : seqOf dT = some ts) (e2 : seqOf dB = some bs) : YardV ts bs m l ∧ fewN bs.length l = true := by
  unfold yardD at h
  simp only [Bool.and_eq_true] at h
  obtain ⟨h1, h2, h3, h4, h5⟩ := h
  refine ⟨⟨?_, ?_, h3, h4⟩, ?_⟩
  · unfold thingsD at h1 ⊢
    rw [e1] at h1
    exact h1
  · unfold beamsD at h2 ⊢
    rw [e2] at h2
    exact h2
  · unfold fewD at h5
    rw [e2] at h5
    exact h5
/-! ### equal -/
theorem eqv_strs : ∀ (a b : List Str), PyData.eqvAll (a.map PyData.str) (b.map PyData.str) = decide (a = b)
  | [], [] => by simp [PyData.eqvAll]
  | [], _ :: _ => by simp [PyData.eqvAll]
  | _ :: _, [] => by simp [PyData.eqvAll]
  | x :: a, y :: b => by
    show ((x == y) && PyData.eqvAll (a.map PyData.str) (b.map PyData.str)) = _
    rw [eqv_strs a b, Bool.eq_iff_iff]
    simp
theorem eqv_pairs : ∀ (a b : List (Str × Int)), PyData.eqvAll (a.map pairD) (b.map pairD) = decide (a = b)
  | [], [] => by simp [PyData.eqvAll]
  | [], _ :: _ => by simp [PyData.eqvAll]
  | _ :: _, [] => by simp [PyData.eqvAll]
  | (x, i) :: a, (y, j) :: b => by
    show (((x == y) && ((i == j) && true)) && PyData.eqvAll (a.map pairD) (b.map pairD)) = _
    rw [eqv_pairs a b, Bool.eq_iff_iff]
    simp
/-- a yard as a pair of pairs -/
abbrev YT : Type := List Str × List (Str × Int) × Int × Int
def ytD (y : YT) : PyData := .tuple [.list (y.1.map PyData.str), .list (y.2.1.map pairD), .int y.2.2.1, .int y.2.2.2]
theorem eqY_yt (a b : YT) : eqY (a.1.map PyData.str) (a.2.1.map pairD) a.2.2.1 a.2.2.2 (b.1.map PyData.str) (b.2.1.map pairD) b.2.2.1 b.2.2.2 = decide (a = b) := by
  show (PyData.eqvAll _ _ && (PyData.eqvAll _ _ && (a.2.2.1 == b.2.2.1 && a.2.2.2 == b.2.2.2))) = _
  rw [eqv_strs, eqv_pairs, Bool.eq_iff_iff]
  obtain ⟨a1, a2, a3, a4⟩ := a
  obtain ⟨b1, b2, b3, b4⟩ := b
  simp
theorem eqv_yt (a b : YT) : PyData.eqv (ytD a) (ytD b) = decide (a = b) := by
  show (PyData.eqvAll _ _ && (PyData.eqvAll _ _ && (a.2.2.1 == b.2.2.1 && (a.2.2.2 == b.2.2.2 && true)))) = _
  rw [eqv_strs, eqv_pairs, Bool.eq_iff_iff]
  obtain ⟨a1, a2, a3, a4⟩ := a
  obtain ⟨b1, b2, b3, b4⟩ := b
  simp
end L2.K01
/-! K01t -/
set_option Elab.async false
set_option linter.all false
set_option maxRecDepth 100000
set_option maxHeartbeats 4000000
namespace L2.K01
open PySem PySem.Spec PyProof.Rows L2.Wb
def q1 : Str := "q"
def freshs : List Str := ["q", "qa", "qb", "qc"]
theorem freshs_ok : ∀ x ∈ freshs, isNameS x = true := by decide +kernel
theorem freshs_nd : freshs.Nodup := by decide +kernel
/-- the step otherwise -/
def stepX (s : Int) : Int := if s % 3 = 0 then 1 else if s % 3 = 1 then 5 else 2
theorem few_small : ∀ n : Nat, n < 4 → ∀ l : Nat, l < 10 → fewN n (l : Int) = true → fewN n (if (l : Int) - 1 > 0 then (l : Int) - 1 else 0) = true := by decide +kernel
theorem few_one : ∀ l : Nat, l < 10 → fewN 1 (l : Int) = true := by decide +kernel
theorem set_split {α : Type} (xs : List α) (i : Nat) (x : α) (h : i < xs.length) : xs.take i ++ [x] ++ xs.drop (i + 1) = xs.set i x := by
  rw [List.set_eq_take_append_cons_drop, if_pos h, List.append_assoc]
  rfl
section
variable {ns : List Str} {prs : List (Str × Int)} {m l : Int}
theorem VN.few' (v : VN ns prs m l) {n : Nat} (h : n = prs.length) : fewN n l = true := by rw [h]; exact v.few
/-- one pair otherwise: its step -/
theorem VN.setStep (v : VN ns prs m l) {i : Nat} {nm : Str} {s t : Int} (h : prs[i]? = some (nm, s)) (t0 : -5 ≤ t) (t1 : t ≤ 5) (t2 : t ≠ 0) : VN ns (prs.set i (nm, t)) m l := by
  have hi := (List.getElem?_eq_some_iff.mp h).1
  have hm : (prs.set i (nm, t)).map (·.1) = prs.map (·.1) := by
    rw [List.map_set]
    refine List.ext_getElem? fun j => ?_
    by_cases c : i = j
    · subst c
      rw [List.getElem?_set_self (by rw [List.length_map]; exact hi), List.getElem?_map, h]
      rfl
    · rw [List.getElem?_set_ne c]
  refine ⟨v.n1, v.n8, v.nn, v.nd, by rw [List.length_set]; exact v.p1, by rw [List.length_set]; exact v.p3, fun p hp => ?_, by rw [hm]; exact v.pd, v.m1, v.m2, v.l0, v.l9, by rw [List.length_set]; exact v.few⟩
  rcases List.mem_or_eq_of_mem_set hp with q | q
  · exact v.pn p q
  · rw [q]
    exact ⟨(v.pn _ (List.mem_of_getElem? h)).1, t0, t1, t2⟩
/-- its name -/
theorem VN.setName (v : VN ns prs m l) {i : Nat} {nm fr : Str} {s : Int} (h : prs[i]? = some (nm, s)) (f1 : isNameS fr = true) (f2 : fr ∉ prs.map (·.1)) : VN ns (prs.set i (fr, s)) m l := by
  have hi := (List.getElem?_eq_some_iff.mp h).1
  refine ⟨v.n1, v.n8, v.nn, v.nd, by rw [List.length_set]; exact v.p1, by rw [List.length_set]; exact v.p3, fun p hp => ?_, ?_, v.m1, v.m2, v.l0, v.l9, by rw [List.length_set]; exact v.few⟩
  · rcases List.mem_or_eq_of_mem_set hp with q | q
    · exact v.pn p q
    · rw [q]
      exact ⟨f1, (v.pn _ (List.mem_of_getElem? h)).2⟩
  · rw [List.map_set, List.set_eq_take_append_cons_drop, if_pos (by rw [List.length_map]; exact hi)]
    have nd := v.pd
    have e : prs.map (·.1) = (prs.map (·.1)).take i ++ (prs.map (·.1)).drop i := (List.take_append_drop i _).symm
    have e2 : (prs.map (·.1)).drop i = nm :: (prs.map (·.1)).drop (i + 1) := by
      have hl : i < (prs.map (·.1)).length := by rw [List.length_map]; exact hi
      rw [List.drop_eq_getElem_cons hl]
      congr 1
      have : (prs.map (·.1))[i]? = some nm := by rw [List.getElem?_map, h]; rfl
      exact (List.getElem?_eq_some_iff.mp this).2
    rw [e, e2] at nd
    have nn := List.perm_middle.nodup_iff.mp nd
    refine List.perm_middle.nodup_iff.mpr (List.nodup_cons.mpr ⟨fun hm => f2 ?_, (List.nodup_cons.mp nn).2⟩)
    rcases List.mem_append.mp hm with q | q
    · exact List.mem_of_mem_take q
    · exact List.mem_of_mem_drop q
theorem VN.most (v : VN ns prs m l) : VN ns prs (m % 100 + 1) l := ⟨v.n1, v.n8, v.nn, v.nd, v.p1, v.p3, v.pn, v.pd, by have := Int.emod_nonneg m (by decide : (100 : Int) ≠ 0); omega, by have := Int.emod_lt_of_pos m (by decide : (0 : Int) < 100); omega, v.l0, v.l9, v.few⟩
theorem VN.lean (v : VN ns prs m l) : VN ns prs m (if l - 1 > 0 then l - 1 else 0) := by
  have f := v.few
  have h0 := v.l0
  have h9 := v.l9
  obtain ⟨k, rfl⟩ : ∃ k : Nat, l = (k : Int) := ⟨l.toNat, (Int.toNat_of_nonneg h0).symm⟩
  refine ⟨v.n1, v.n8, v.nn, v.nd, v.p1, v.p3, v.pn, v.pd, v.m1, v.m2, ?_, ?_, few_small _ (by have := v.p3; omega) k (by omega) f⟩
  · split <;> omega
  · split <;> omega
theorem VN.revN (v : VN ns prs m l) : VN ns.reverse prs m l := ⟨by rw [List.length_reverse]; exact v.n1, by rw [List.length_reverse]; exact v.n8, fun x hx => v.nn x (List.mem_reverse.mp hx), (List.reverse_perm _).nodup_iff.mpr v.nd, v.p1, v.p3, v.pn, v.pd, v.m1, v.m2, v.l0, v.l9, v.few⟩
theorem VN.revP (v : VN ns prs m l) : VN ns prs.reverse m l := ⟨v.n1, v.n8, v.nn, v.nd, by rw [List.length_reverse]; exact v.p1, by rw [List.length_reverse]; exact v.p3, fun x hx => v.pn x (List.mem_reverse.mp hx), by rw [List.map_reverse]; exact (List.reverse_perm _).nodup_iff.mpr v.pd, v.m1, v.m2, v.l0, v.l9, by rw [List.length_reverse]; exact v.few⟩
theorem VN.take1 (v : VN ns prs m l) : VN ns (prs.take 1) m l := by
  have hp := v.p1
  have e : (prs.take 1).length = 1 := by rw [List.length_take]; omega
  have h0 := v.l0
  have h9 := v.l9
  obtain ⟨k, rfl⟩ : ∃ k : Nat, l = (k : Int) := ⟨l.toNat, (Int.toNat_of_nonneg h0).symm⟩
  exact ⟨v.n1, v.n8, v.nn, v.nd, by omega, by omega, fun x hx => v.pn x (List.mem_of_mem_take hx), by rw [List.map_take]; exact v.pd.sublist (List.take_sublist _ _), v.m1, v.m2, v.l0, v.l9, by rw [e]; exact few_one k (by omega)⟩
theorem VN.dropN (v : VN ns prs m l) : VN (if ns.dropLast = [] then [q1] else ns.dropLast) prs m l := by
  have := v.n8
  split
  · exact ⟨by simp, by simp, fun x hx => by rw [List.mem_singleton.mp hx]; decide +kernel, by simp, v.p1, v.p3, v.pn, v.pd, v.m1, v.m2, v.l0, v.l9, v.few⟩
  · next h =>
    refine ⟨List.length_pos_iff.mpr h, by rw [List.length_dropLast]; omega, fun x hx => v.nn x (List.dropLast_subset _ hx), v.nd.sublist (List.dropLast_sublist _), v.p1, v.p3, v.pn, v.pd, v.m1, v.m2, v.l0, v.l9, v.few⟩
end
theorem stepX_ok (s : Int) : -5 ≤ stepX s ∧ stepX s ≤ 5 ∧ stepX s ≠ 0 := by
  unfold stepX
  split
  · decide
  · split <;> decide
/-- what is held against the yard -/
def cands (ns : List Str) (prs : List (Str × Int)) (m l : Int) (i : Nat) (nm : Str) (s : Int) (fr : Str) : List YT :=
  [(ns, prs.set i (nm, 0 - s), m, l), (ns, prs.set i (nm, stepX s), m, l), (ns, prs.set i (fr, s), m, l), (ns, prs, m % 100 + 1, l), (ns, prs, m, if l - 1 > 0 then l - 1 else 0), (ns.reverse, prs, m, l), (ns, prs.reverse, m, l), (ns, prs.take 1, m, l), (if ns.dropLast = [] then [q1] else ns.dropLast, prs, m, l)]
theorem cands_ok {ns : List Str} {prs : List (Str × Int)} {m l : Int} (v : VN ns prs m l) {i : Nat} {nm fr : Str} {s : Int} (h : prs[i]? = some (nm, s)) (f1 : isNameS fr = true) (f2 : fr ∉ prs.map (·.1)) : ∀ y ∈ cands ns prs m l i nm s fr, VN y.1 y.2.1 y.2.2.1 y.2.2.2 := by
  obtain ⟨_, a, b, c⟩ := v.pn _ (List.mem_of_getElem? h)
  obtain ⟨x0, x1, x2⟩ := stepX_ok s
  intro y hy
  unfold cands at hy
  simp only [List.mem_cons, List.not_mem_nil, or_false] at hy
  rcases hy with rfl | rfl | rfl | rfl | rfl | rfl | rfl | rfl | rfl
  · exact v.setStep h (by simp only at a b c; omega) (by simp only at a b c; omega) (by simp only at a b c; omega)
  · exact v.setStep h x0 x1 x2
  · exact v.setName h f1 f2
  · exact v.most
  · exact v.lean
  · exact v.revN
  · exact v.revP
  · exact v.take1
  · exact v.dropN
theorem nodup_len : ∀ {a b : List Str}, a.Nodup → (∀ x ∈ a, x ∈ b) → a.length ≤ b.length
  | [], _, _, _ => Nat.zero_le _
  | x :: a, b, hd, hs => by
    have hx := hs x List.mem_cons_self
    have h2 := nodup_len (a := a) (b := b.erase x) (List.nodup_cons.mp hd).2 fun y hy => (List.mem_erase_of_ne fun e => (List.nodup_cons.mp hd).1 (by rw [← e]; exact hy)).mpr (hs y (List.mem_cons_of_mem _ hy))
    have h3 := List.length_erase_of_mem hx
    have h4 := List.length_pos_of_mem hx
    rw [List.length_cons]
    omega
/-- of four texts one is none of three -/
theorem fresh_of {prs : List (Str × Int)} (h : prs.length ≤ 3) : ∃ fr r, freshs.filter (fun x => !decide (x ∈ prs.map (·.1))) = fr :: r ∧ fr ∈ freshs ∧ fr ∉ prs.map (·.1) := by
  cases e : freshs.filter (fun x => !decide (x ∈ prs.map (·.1))) with
  | cons a r =>
    have ha : a ∈ freshs.filter (fun x => !decide (x ∈ prs.map (·.1))) := by rw [e]; exact List.mem_cons_self
    obtain ⟨h1, h2⟩ := List.mem_filter.mp ha
    exact ⟨a, r, rfl, h1, by simpa using h2⟩
  | nil =>
    exfalso
    have sub : ∀ x ∈ freshs, x ∈ prs.map (·.1) := fun x hx => by
      have := List.filter_eq_nil_iff.mp e x hx
      simpa using this
    have := nodup_len freshs_nd sub
    rw [List.length_map] at this
    have e4 : freshs.length = 4 := rfl
    omega
end L2.K01
/-! K01v -/
set_option Elab.async false
set_option linter.all false
set_option maxRecDepth 100000
set_option maxHeartbeats 4000000
namespace L2.K01
open PySem PySem.Spec PyProof.Rows L2.Wb
theorem inV_strs (x : Str) (zs : List Str) : inV (V.str x) (zs.map V.str) = decide (x ∈ zs) := by
  unfold inV
  rw [List.any_map, Bool.eq_iff_iff, List.any_eq_true, decide_eq_true_eq]
  constructor
  · rintro ⟨y, hy, e⟩
    have e' : (y == x) = true := e
    rw [← eq_of_beq e']; exact hy
  · intro h
    exact ⟨x, h, show (x == x) = true by simp⟩
theorem flat_strs (zs : List Str) : (zs.map V.str).all flatV = true := by
  rw [List.all_eq_true]
  intro v hv
  obtain ⟨x, _, rfl⟩ := List.mem_map.mp hv
  rfl
theorem pairs_cut {st gl cl : Addr} {n : Nat} {H : Hp} (L : LS st gl cl n H) : ∀ {ys : List V} {prs : List (Str × Int)}, DxAll H ys (prs.map pairD) → DxAll (cut (N3 st gl cl) H) ys (prs.map pairD)
  | _, [], .nil => .nil
  | _, _ :: _, .cons h t => by
    refine .cons ?_ (pairs_cut L t)
    cases h with
    | tup q1 q2 =>
      match q2 with
      | .cons a (.cons b .nil) =>
        cases a; cases b
        refine .tup (cutAt (fun z => ?_) q1) (.cons (.str _) (.cons (.int _) .nil))
        obtain ⟨⟨d, gs, cs, t, a1, a2, a3, _⟩, _⟩ := L
        rcases z with z | z | z
        · rw [z, a1] at q1; cases q1
        · rw [z, a2] at q1; cases q1
        · rw [z, a3] at q1; cases q1
theorem cutD_to {ds : List PyData} {i : Nat} (h : i ≤ ds.length) : Wb.cutD ds none (some (i : Int)) = ds.take i := by
  unfold Wb.cutD
  rw [HT.sIx_none, HT.sIx_nat, Nat.min_eq_left h, List.drop_zero, Nat.sub_zero]
theorem cutD_from {ds : List PyData} {i : Nat} (h : i ≤ ds.length) : Wb.cutD ds (some (i : Int)) none = ds.drop i := by
  unfold Wb.cutD
  rw [HT.sIx_none, HT.sIx_nat, Nat.min_eq_left h]
  exact List.take_of_length_le (by rw [List.length_drop]; exact Nat.le_refl _)
theorem cutD_last (ds : List PyData) : Wb.cutD ds none (some (-1)) = ds.dropLast := by
  unfold Wb.cutD
  rw [HT.sIx_none, List.drop_zero, Nat.sub_zero, List.dropLast_eq_take]
  congr 1
  have e : HT.sIx ds.length ds.length (some (-1)) = ((-1 : Int) + (ds.length : Int)).toNat := rfl
  rw [e]
  omega
/-- the pairs with one otherwise -/
theorem set_data {prs : List (Str × Int)} {i : Nat} (h : i < prs.length) (p : Str × Int) : (Wb.cutD (prs.map pairD) none (some (i : Int)) ++ [pairD p]) ++ Wb.cutD (prs.map pairD) (some ((i : Int) + 1)) none = (prs.set i p).map pairD := by
  rw [cutD_to (by rw [List.length_map]; omega), show (i : Int) + 1 = ((i + 1 : Nat) : Int) by omega, cutD_from (by rw [List.length_map]; omega), List.map_set, set_split _ _ _ (by rw [List.length_map]; exact h)]
end L2.K01
/-! K01w -/
set_option Elab.async false
set_option linter.all false
set_option maxRecDepth 100000
set_option maxHeartbeats 4000000
namespace L2.K01
open PySem PySem.Spec PyProof.Rows L2.Wb
theorem dx_rev {H : Hp} : ∀ {vs : List V} {ds : List PyData}, DxAll H vs ds → DxAll H vs.reverse ds.reverse
  | _, _, .nil => .nil
  | _, _, .cons (v := v) (vs := vs) (d := d) (ds := ds) h t => by
    rw [List.reverse_cons, List.reverse_cons]
    exact (dx_rev t).snoc h
theorem rd_revL {K : PySem.W.Frag} {N : Addr → Prop} {σ : L2.St} {H : Hp} {i : Nat} {v : V} {ds : List PyData} (hN : Std N H) (h : σ[i]? = some (some v)) (hd : Dx (cut N H) v (.list ds)) : Wb.Rd N (tRevL K (tVar i)) σ H (.list ds.reverse) := fun H1 s Q kk => by
  refine ⟨_, h, ?_⟩
  cases hd with
  | lst a1 a2 =>
    refine ⟨_, _, rfl, SqL.of (s _ _ (cut_in a1).2), fun p hp => kk _ _ (Same.new hp) (.lst (cutAt ((Std.same hN s).new hp) upd_same) (dx_rev (a2.same (sameCut (s.trans (Same.new hp))))))⟩
theorem rd_orL {K : PySem.W.Frag} {N : Addr → Prop} {σ : L2.St} {H : Hp} {ta tb : TE} {ds es : List PyData} (h1 : Wb.Rd N ta σ H (.list ds)) (h2 : Wb.Rd N tb σ H (.list es)) : Wb.Rd N (tOrT K ta tb) σ H (.list (if ds = [] then es else ds)) := fun H1 s Q kk => by
  refine h1 H1 s _ fun v H2 s2 hv => ?_
  cases hv with
  | lst a1 a2 =>
    rename_i a xs
    refine ⟨!xs.isEmpty, .inl ⟨xs, SqL.of (cut_in a1).2, rfl⟩, ?_⟩
    cases ds with
    | nil =>
      cases a2
      refine iteF ?_
      exact h2 H2 (s.trans s2) _ fun v H3 s3 hv => kk v H3 (s2.trans s3) (by rw [if_pos rfl]; exact hv)
    | cons d r =>
      cases a2 with
      | cons b1 b2 =>
        refine iteT ?_
        exact kk _ _ s2 (by rw [if_neg (by simp)]; exact .lst a1 (.cons b1 b2))
/-- the list that is walked at last -/
theorem cands_data (ns : List Str) (prs : List (Str × Int)) (m l : Int) (i : Nat) (nm fr : Str) (s : Int) (hp : 1 ≤ prs.length) :
    ((((cands ns prs m l i nm s fr).map ytD).take 3 ++ [.tuple [.list (ns.map PyData.str), .list (prs.map pairD), .int (m % 100 + 1), .int l], .tuple [.list (ns.map PyData.str), .list (prs.map pairD), .int m, .int (if l - 1 > 0 then l - 1 else 0)]]) ++
      [.tuple [.list (ns.map PyData.str).reverse, .list (prs.map pairD), .int m, .int l], .tuple [.list (ns.map PyData.str), .list (prs.map pairD).reverse, .int m, .int l]]) ++
      [.tuple [.list (ns.map PyData.str), .list (Wb.cutD (prs.map pairD) none (some 1)), .int m, .int l], .tuple [.list (if Wb.cutD (ns.map PyData.str) none (some (-1)) = [] then [.str "q"] else Wb.cutD (ns.map PyData.str) none (some (-1))), .list (prs.map pairD), .int m, .int l]] = (cands ns prs m l i nm s fr).map ytD := by
  have e1 : Wb.cutD (prs.map pairD) none (some 1) = (prs.take 1).map pairD := by
    have := cutD_to (ds := prs.map pairD) (i := 1) (by rw [List.length_map]; exact hp)
    rw [List.map_take]
    exact this
  have e2 : (if Wb.cutD (ns.map PyData.str) none (some (-1)) = [] then [PyData.str "q"] else Wb.cutD (ns.map PyData.str) none (some (-1))) = (if ns.dropLast = [] then [q1] else ns.dropLast).map PyData.str := by
    rw [cutD_last]
    by_cases c : ns.dropLast = []
    · rw [if_pos c, if_pos (by rw [← List.map_dropLast, c]; rfl)]; rfl
    · rw [if_neg c, if_neg (fun h => c (by rw [← List.map_dropLast] at h; exact List.map_eq_nil_iff.mp h)), ← List.map_dropLast]
  rw [e1, e2, ← List.map_reverse, ← List.map_reverse]
  rfl
theorem VN.yv {ns : List Str} {prs : List (Str × Int)} {m l : Int} (v : VN ns prs m l) : YardV (ns.map PyData.str) (prs.map pairD) m l := (yardV_of v.yard rfl rfl).1
theorem VN.shortS {ns : List Str} {prs : List (Str × Int)} {m l : Int} (v : VN ns prs m l) : ShortS (.list (ns.map PyData.str)) := fun ds e x hx => by
  cases e
  obtain ⟨z, hz, rfl⟩ := List.mem_map.mp hx
  exact (oks_name (v.nn z hz)).short
theorem VN.shortB {ns : List Str} {prs : List (Str × Int)} {m l : Int} (v : VN ns prs m l) : ShortB (.list (prs.map pairD)) := fun ds e x hx => by
  cases e
  obtain ⟨z, hz, rfl⟩ := List.mem_map.mp hx
  exact (oks_name (v.pn z hz).1).short
theorem ytD_can {ns : List Str} {prs : List (Str × Int)} {m l : Int} (v : VN ns prs m l) : PySem.SeqAt.shaped (ytD (ns, prs, m, l)) = true := by
  have y := v.yv
  have a : PySem.SeqAt.shaped (.tuple (ns.map PyData.str)) = true := y.cts
  have b : PySem.SeqAt.shaped (.tuple (prs.map pairD)) = true := y.cbs
  refine shaped_tup (n := 50) (fun d hd => ?_) (fun d hd => ?_) (by decide)
  · simp only [List.mem_cons, List.not_mem_nil, or_false] at hd
    rcases hd with rfl | rfl | rfl | rfl
    · exact shaped_can a
    · exact shaped_can b
    · rfl
    · rfl
  · simp only [List.mem_cons, List.not_mem_nil, or_false] at hd
    rcases hd with rfl | rfl | rfl | rfl
    · exact Nat.le_trans (y.tmT.dp) (by decide)
    · exact Nat.le_trans (y.tmB.dp) (by decide)
    · exact Nat.zero_le _
    · exact Nat.zero_le _
end L2.K01
/-! K01u -/
set_option Elab.async false
set_option linter.all false
set_option maxRecDepth 100000
set_option maxHeartbeats 4000000
namespace L2.K01
open PySem PySem.Spec PyProof.Rows L2.Wb
abbrev sNear : Stmt := top 31
abbrev nNear : List Str := ["state", "yard", "row", "names", "pairs", "heavy", "slant", "at", "name", "step", "fresh", "some", "pair", "other", "found", "one"]
theorem seq_for {K : PySem.W.Frag} {N : Addr → Prop} {σ : L2.St} {H : Hp} {ta : TA} {ds : List PyData} {g : TG} {tb u : TS} {D : Ends} (h : RdA N ta σ H ds) (hl : ds.length ≤ 1000)
    (k : ∀ b ws H2, Same H H2 → H2 b = none → DxAll (cut N H2) ws ds → ∃ Pv : Nat → L2.St → Hp → Prop, Pv 0 σ (upd H2 b (.lst ws)) ∧ (∀ i σ H, i ≤ ws.length → Pv i σ H → SqL K H b ws) ∧
      (∀ i x σ H, ws[i]? = some x → Pv i σ H → g x σ H fun σ2 H2 => tb { nx := Pv (i + 1), rt := D.rt, bk := u D, ct := Pv (i + 1) } σ2 H2) ∧ (∀ σ H, Pv ws.length σ H → u D σ H)) : tSeq (tFor (iList K (tLst ta)) g tb) u D σ H := by
  unfold tSeq tFor iList
  refine rdm_lst h hl H (Same.refl _) _ fun b ws H2 s hb hw => ?_
  obtain ⟨Pv, h0, h1, h2, h3⟩ := k b ws H2 s hb hw
  exact ⟨b, rfl, ⟨_, SqL.of upd_same⟩, for_list Pv h0 h1 h2 h3⟩
theorem app_rd {K : PySem.W.Frag} {N : Addr → Prop} {σ : L2.St} {H : Hp} {te : TE} {d : PyData} {i : Nat} {D : Ends} {a : Addr} {vs : List V} (h0 : σ[i]? = some (some (.ref a))) (ha : H a = some (.lst vs)) (hl : vs.length ≤ 1000) (h : Wb.Rd N te σ H d)
    (k : ∀ v H2, Same H H2 → Dx (cut N H2) v d → D.nx σ (upd H2 a (.lst (vs ++ [v])))) : tDrop (tBM K "list" rAppend (tVar i) (tCons te tNil)) D σ H := by
  refine ⟨_, h0, .inl ⟨rfl, _, SqL.of ha⟩, ?_⟩
  exact h H (Same.refl _) _ fun v H2 s hv => ⟨a, vs, v, rfl, rfl, s _ _ ha, Nat.lt_of_le_of_lt hl (by decide +kernel), k v H2 s hv⟩
theorem poV {i : Nat} {z : Int} {σ : L2.St} (h : σ[i]? = some (some (.int z))) : ∀ H Q, Q (some z) H → tPart (tVar i) σ H Q := fun H Q q => ⟨_, h, z, rfl, q⟩
theorem poS {i : Nat} {z : Int} {σ : L2.St} (h : σ[i]? = some (some (.int z))) : ∀ H Q, Q (some (z + 1)) H → tPart (tOp (rI0 fun i j => .int (i + j)) (tVar i) (tC (.int 1))) σ H Q := fun H Q q => ⟨_, h, _, _, rfl, rfl, _, rfl, q⟩
theorem step_rd {K : PySem.W.Frag} {N : Addr → Prop} {σ : L2.St} {H : Hp} {i : Nat} {z : Int} (h : σ[i]? = some (some (.int z))) : Wb.Rd N (tOp (rIxL K) (tLst (tCons (tC (.int 1)) (tCons (tC (.int 5)) (tCons (tC (.int 2)) tNil)))) (tOp (rI (fun _ j => 0 < j) fun i j => .int (i % j)) (tVar i) (tC (.int 3)))) σ H (.int (stepX z)) := fun H1 s Q kk => by
  refine ⟨show 3 ≤ sizeLine by decide +kernel, fun p hp => ⟨_, h, _, _, rfl, rfl, (by decide : (0 : Int) < 3), p, _, _, .int (stepX z), rfl, rfl, SqL.of upd_same, ?_, kk _ _ (Same.new hp) (.int _)⟩⟩
  have m0 : 0 ≤ z % 3 := Int.emod_nonneg _ (by decide)
  have m1 : z % 3 < 3 := Int.emod_lt_of_pos _ (by decide)
  unfold stepX
  by_cases c0 : z % 3 = 0
  · rw [if_pos c0, c0]; rfl
  · rw [if_neg c0]
    by_cases c1 : z % 3 = 1
    · rw [if_pos c1, c1]; rfl
    · rw [if_neg c1, show z % 3 = 2 by omega]; rfl
def spNear (CY : Addr) : Sp := fun vs H Q _ => ∃ (st gl cl p r : Addr) (n : Nat) (N : Addr → Prop) (dN dP : PyData) (ts bs : List PyData) (m l : Int), vs = [.ref st, .ref p, .ref r] ∧ LS st gl cl n H ∧ n ≤ 900000 ∧ Dom st gl cl H N ∧ Dx (cut N H) (.ref r) (.list [dN, dP, .int m, .int l]) ∧ seqOf dN = some ts ∧ seqOf dP = some bs ∧
  YardAt CY (cut N H) p ts bs m l ∧ YardV ts bs m l ∧ fewN bs.length l = true ∧ ∀ H', LS st gl cl (n + 1) H' → Kept (N3 st gl cl) H H' → Q (.bl true) H'
structure TxtU (K : PySem.W.Frag) (mg : Str → Option Value) (CY fI fN fE : Addr) : Prop where
  nlst : mg "list" = none
  nlen : mg "len" = none
  nmax : mg "max" = none
  mkY : Mk K CY fI
  gY : mg "Yard" = some (.ref CY)
  gN : mg "_law_next" = some (.ref fN)
  kN : PySem.W.keepIn K (.ref fN) = true
  oE : OEq K CY fE
section
variable {P : Program} {w : World} {K : PySem.W.Frag} {mg : Str → Option Value} {base : Heap} {CY CN fI fN fE : Addr} {dI dN_ dE : FuncData}
theorem scNear : FnScope nNear ["state", "yard", "row"] (defScope sNear) := ⟨rfl, rfl, rfl, by decide +kernel, rfl, by decide +kernel, by decide +kernel⟩
theorem ok_near {f : Addr} {fd : FuncData} {gA : List Value → List Value → List Value} (F : Fun K "_law_near_unlike" "_law_near_unlike" sNear f fd) (T : TxtU K mg CY fI fN fE) (GI : FnOk P w K mg base (L2.CX P w) 4 fI dI ["self", "things", "beams", "most", "lean"] (spInit CY CN))
    (bA : KBn K dI ["self", "things", "beams", "most", "lean"] 3 ["most", "lean"] gA (fun vs zs => vs ++ zs)) (GN : FnOk P w K mg base CX0 1 fN dN_ ["state", "size"] spNext) (bN : Binds K dN_ ["state", "size"] []) (GE : FnOk P w K mg base CX0 1 fE dE ["self", "other"] (spEq CY)) (bE : Binds K dE ["self", "other"] []) :
    FnOk P w K mg base CX0 6 f fd ["state", "yard", "row"] (spNear CY) := by
  refine F.ok scNear (fun vs H Q E h => ?_) (fun cdv A outer s H vs Q E hr h => ?_)
  · obtain ⟨_, _, _, _, _, _, _, _, _, _, _, _, _, rfl, _⟩ := h; rfl
  · obtain ⟨st, gl, cl, p, r, n, N, dN, dP, ts, bs, m, l, rfl, hL, hn, hDm, hrow, eN, eP, hy, hv, hfew, k⟩ := h
    have hr1 : Room 1 _ := hr.mono (by decide)
    have hr2 : Room 2 _ := hr.mono (by decide)
    have hr5 : Room 5 _ := hr.mono (by decide)
    refine ⟨_, pss_cons (ps_asg (pe_tup (pa_cons (pe_callTy call_lstD (by rfl) T.nlst (by decide +kernel) (pa_cons (pe_ix ix_list (pv 2) pe_int (fun _ _ => rfl)) pa_nil)) (pa_cons (pe_callTy call_lstD (by rfl) T.nlst (by decide +kernel) (pa_cons (pe_ix ix_list (pv 2) pe_int (fun _ _ => rfl)) pa_nil))
          (pa_cons (pe_ix ix_list (pv 2) pe_int (fun _ _ => rfl)) (pa_cons (pe_ix ix_list (pv 2) pe_int (fun _ _ => rfl)) pa_nil)))))
        (pg_tup rfl (pgs_cons (pg_name (i := 3) scNear.nd rfl (Or.inl rfl)) (pgs_cons (pg_name (i := 4) scNear.nd rfl (Or.inr rfl)) (pgs_cons (pg_name (i := 5) scNear.nd rfl (Or.inl rfl)) (pgs_cons (pg_name (i := 6) scNear.nd rfl (Or.inl rfl)) pgs_nil))))))
      (pss_cons (ps_set (i := 7) scNear.nd rfl (Or.inl rfl) (pe_call GN hr1 rfl T.gN T.kN bN .nil pass0 (pa_cons (pv 0) (pa_cons (pe_callB call_len_seq (by rfl) T.nlen PySem.boot_len (pa_cons (pv 4) pa_nil)) pa_nil))))
      (pss_cons (ps_asg (pe_ix ix_list (pv 4) (pv 7) (fun _ _ => rfl)) (pg_tup rfl (pgs_cons (pg_name (i := 8) scNear.nd rfl (Or.inl rfl)) (pgs_cons (pg_name (i := 9) scNear.nd rfl (Or.inl rfl)) pgs_nil))))
      (pss_cons (ps_set (i := 10) scNear.nd rfl (Or.inl rfl) (pe_ix ix_list (pe_lc (own := [("one", 15)]) (g := gName 15) rfl scNear.nd (pi_list (pe_lst (pa_cons pe_str (pa_cons pe_str (pa_cons pe_str (pa_cons pe_str pa_nil)))))) (blkOk_by (own := [("one", 15)]) (N := nNear) (sc := defScope sNear) (by decide +kernel))
          (fun _ _ _ _ _ => pg_name (i := 15) scNear.nd rfl (Or.inl rfl))
          (fun _ _ _ _ _ => pts_one (pt_cmpR (r := rIn K true) (tb := tLc (iList K (tVar 4)) (gName 12) tYes (tOp (rIxT K) (tVar 12) (tC (.int 0))) [12]) op_notIn_seq (pv 15) (by exact (pe_lc (own := [("pair", 12)]) (wi := iList K (tVar 4)) (te := tOp (rIxT K) (tVar 12) (tC (.int 0))) (g := gName 12) (tt := tYes) rfl scNear.nd (pi_list (pv 4)) (blkOk_by (own := [("pair", 12)]) (N := nNear) (sc := { kind := .function, names := [(".0", .local), ("one", .local), ("pairs", .cell)], isGenerator := false, isCoroutine := false }) (by decide +kernel))
            (fun _ _ _ _ _ => pg_name (i := 12) scNear.nd rfl (Or.inl rfl)) (fun _ _ _ _ _ => pts_nil) (fun _ _ _ _ _ => pe_ix (r := rIxT K) ix_tup (pv 12) pe_int (fun _ _ => rfl)))) (by rfl)))
          (fun _ _ _ _ _ => pv 15)) pe_int (fun _ _ => rfl)))
      (pss_cons (ps_set (i := 11) scNear.nd rfl (Or.inl rfl) (pe_lst (pa_cons (pe_tup (pa_cons (pv 3) (pa_cons (pe_op op_cat (pe_op op_cat (pe_slice sl_list (pv 4) po_none (po_some (pv 7))) (pe_lst (pa_cons (pe_tup (pa_cons (pv 8) (pa_cons (pe_op op_sub pe_int (pv 9)) pa_nil))) pa_nil))) (pe_slice sl_list (pv 4) (po_some (pe_op op_add (pv 7) pe_int)) po_none)) (pa_cons (pv 5) (pa_cons (pv 6) pa_nil))))) pa_nil)))
      (pss_cons (ps_for PassesOwn.never rfl (pi_list (pe_lst (pa_cons (pe_tup (pa_cons (pv 8) (pa_cons (pe_ix ix_list (pe_lst (pa_cons pe_int (pa_cons pe_int (pa_cons pe_int pa_nil)))) (pe_op op_mod (pv 9) pe_int) (fun _ _ => rfl)) pa_nil))) (pa_cons (pe_tup (pa_cons (pv 10) (pa_cons (pv 9) pa_nil))) pa_nil)))) (pg_name (i := 12) scNear.nd rfl (Or.inl rfl))
        (pss_one (ps_expr (pe_bm PySem.F.plainAttrs_list PySem.F.slot_list_append PySem.F.type_list_append mt_append (pv 11) (pa_cons (pe_tup (pa_cons (pv 3) (pa_cons (pe_op op_cat (pe_op op_cat (pe_slice sl_list (pv 4) po_none (po_some (pv 7))) (pe_lst (pa_cons (pv 12) pa_nil))) (pe_slice sl_list (pv 4) (po_some (pe_op op_add (pv 7) pe_int)) po_none)) (pa_cons (pv 5) (pa_cons (pv 6) pa_nil))))) pa_nil)))))
      (pss_cons (ps_set (i := 11) scNear.nd rfl (Or.inl rfl) (pe_op op_cat (pv 11) (pe_lst (pa_cons (pe_tup (pa_cons (pv 3) (pa_cons (pv 4) (pa_cons (pe_op op_add (pe_op op_mod (pv 5) pe_int) pe_int) (pa_cons (pv 6) pa_nil)))))
          (pa_cons (pe_tup (pa_cons (pv 3) (pa_cons (pv 4) (pa_cons (pv 5) (pa_cons (pe_callB (call_max2 rfl) (by rfl) T.nmax (by decide +kernel) (pa_cons pe_int (pa_cons (pe_op op_sub (pv 6) pe_int) pa_nil))) pa_nil))))) pa_nil)))))
      (pss_cons (ps_set (i := 11) scNear.nd rfl (Or.inl rfl) (pe_op op_cat (pv 11) (pe_lst (pa_cons (pe_tup (pa_cons (pe_revL (pv 3)) (pa_cons (pv 4) (pa_cons (pv 5) (pa_cons (pv 6) pa_nil))))) (pa_cons (pe_tup (pa_cons (pv 3) (pa_cons (pe_revL (pv 4)) (pa_cons (pv 5) (pa_cons (pv 6) pa_nil))))) pa_nil)))))
      (pss_cons (ps_set (i := 11) scNear.nd rfl (Or.inl rfl) (pe_op op_cat (pv 11) (pe_lst (pa_cons (pe_tup (pa_cons (pv 3) (pa_cons (pe_slice sl_list (pv 4) po_none (po_some pe_int)) (pa_cons (pv 5) (pa_cons (pv 6) pa_nil)))))
          (pa_cons (pe_tup (pa_cons (pe_orT (pe_slice sl_list (pv 3) po_none (po_some (pe_un un_neg pe_int))) (pe_one (pe_lst (pa_cons pe_str pa_nil)))) (pa_cons (pv 4) (pa_cons (pv 5) (pa_cons (pv 6) pa_nil))))) pa_nil)))))
      (pss_cons (ps_for PassesOwn.never rfl (pi_list (pv 11)) (pg_name (i := 13) scNear.nd rfl (Or.inl rfl))
        (pss_cons (ps_set (i := 14) scNear.nd rfl (Or.inl rfl) (pe_makeK (ks := ["most", "lean"]) (E := E0) T.mkY GI hr5 rfl T.gY bA (passes_call (W := fun _ _ _ _ => False) takes0 (fun _ _ _ _ h => h)) (pa_cons (pe_ix ix_tup (pv 13) pe_int (fun _ _ => rfl)) (pa_cons (pe_ix ix_tup (pv 13) pe_int (fun _ _ => rfl)) pa_nil)) (pk_cons (pe_ix ix_tup (pv 13) pe_int (fun _ _ => rfl)) (pk_cons (pe_ix ix_tup (pv 13) pe_int (fun _ _ => rfl)) pk_nil))))
        (pss_one (ps_if (PW.pt (pw_or (pt_cmpR op_ne (pe_cmpR (op_eqO T.oE GE hr1 bE pass0) (pv 1) (pv 14) (nomark _)) (pe_cmpR (op_eqD hr.units) (pv 13) (pe_tup (pa_cons (pv 3) (pa_cons (pv 4) (pa_cons (pv 5) (pa_cons (pv 6) pa_nil))))) (nomark _)) (nomark _))
          (pw_or1 (pt_cmpR op_eq (pe_cmpR (op_neO T.oE GE hr2 bE pass0) (pv 1) (pv 14) (nomark _)) (pe_cmpR (op_eqO T.oE GE hr1 bE pass0) (pv 1) (pv 14) (nomark _)) (nomark _))))) (pss_one (ps_ret pe_bl)) pss_nil))))
      (pss_one (ps_ret pe_bl))))))))))), ?_⟩
    obtain ⟨ns, prs, rfl, rfl, vn⟩ := vn_of hv hfew
    cases hrow with
    | lst w1 w2 =>
      match w2 with
      | .cons (v := vN) xN (.cons (v := vP) xP (.cons xM (.cons xL .nil))) =>
        cases xM; cases xL
        obtain ⟨nr, w1⟩ := cut_in w1
        have hN := xN.same cut_same
        have hP := xP.same cut_same
        refine ⟨_, rfl, r, _, _, _, rfl, rfl, SqL.of w1, rfl, vN, dN, _, rfl, hN, eN, fun n0 xs hn0 hx => ?_⟩
        have s1 : Same H (upd H n0 (.lst xs)) := Same.new hn0
        refine ⟨_, rfl, r, _, _, _, rfl, rfl, SqL.of (s1 _ _ w1), rfl, vP, dP, _, rfl, hP.same s1, eP, fun p0 ys hp0 hys => ?_⟩
        have s2 := s1.trans (Same.new (o := .lst ys) hp0)
        refine ⟨_, rfl, r, _, _, _, rfl, rfl, SqL.of (s2 _ _ w1), rfl, _, rfl, r, _, _, _, rfl, rfl, SqL.of (s2 _ _ w1), rfl, show 4 ≤ sizeLine by decide +kernel, fun tp htp => ?_⟩
        refine ⟨tp, _, rfl, SqT.of upd_same, rfl, _, _, rfl, _, _, rfl, _, _, rfl, _, _, rfl, rfl, ?_⟩
        have s3 := s2.trans (Same.new (o := .tup [.ref n0, .ref p0, .int m, .int l]) htp)
        have n03 : upd (upd (upd H n0 (.lst xs)) p0 (.lst ys)) tp (.tup [.ref n0, .ref p0, .int m, .int l]) n0 = some (.lst xs) := Same.new htp _ _ (Same.new hp0 _ _ upd_same)
        have p03 : upd (upd (upd H n0 (.lst xs)) p0 (.lst ys)) tp (.tup [.ref n0, .ref p0, .int m, .int l]) p0 = some (.lst ys) := Same.new htp _ _ upd_same
        have fp0 : H p0 = none := s1.free hp0
        have sa1 : Same (upd H n0 (.lst xs)) (upd (upd (upd H n0 (.lst xs)) p0 (.lst ys)) tp (.tup [.ref n0, .ref p0, .int m, .int l])) := (Same.new hp0).trans (Same.new htp)
        generalize upd (upd (upd H n0 (.lst xs)) p0 (.lst ys)) tp (.tup [.ref n0, .ref p0, .int m, .int l]) = Ha at s3 n03 p03 sa1
        have La := hL.same s3
        have hysa := pairs_cut La (hys.same sa1)
        have np0 : ¬ N3 st gl cl p0 := hL.new fp0
        have nn0 : ¬ N3 st gl cl n0 := hL.new hn0
        have exs : xs = ns.map V.str := by
          have := names_are hx (names_all vn.nn)
          rwa [strOf_map] at this
        have hyl : ys.length = prs.length := by rw [hys.len, List.length_map]
        have vp1 := vn.p1
        have vp3 := vn.p3
        refine ⟨_, rfl, _, rfl, p0, _, rfl, .inl (SqL.of p03), st, gl, cl, n, _, rfl, La, by omega, by omega, by omega, fun at_ G a0 a1 LG kG => ?_⟩
        have cG := kG.cut
        have KG := (Same.kept s3).trans kG
        have nG : G n0 = some (.lst xs) := kG _ _ nn0 n03
        have pG : G p0 = some (.lst ys) := kG _ _ np0 p03
        have SG : Std (N3 st gl cl) G := fun b hb => LG.has hb
        have hysG := hysa.same cG
        have xNames : Dx (cut (N3 st gl cl) G) (.ref n0) (.list (ns.map PyData.str)) := .lst (cutAt nn0 nG) (by rw [exs]; exact strs_dx ns)
        have xPairs : Dx (cut (N3 st gl cl) G) (.ref p0) (.list (prs.map pairD)) := .lst (cutAt np0 pG) hysG
        obtain ⟨y, e1, e2⟩ := atI_at (xs := ys) a0 a1
        obtain ⟨d, hd, hyd⟩ := hysG.get e2
        have hi : at_.toNat < prs.length := by omega
        have ei : ((at_.toNat : Nat) : Int) = at_ := Int.toNat_of_nonneg a0
        rw [List.getElem?_map, List.getElem?_eq_getElem hi] at hd
        have hpr : prs[at_.toNat]? = some (prs[at_.toNat].1, prs[at_.toNat].2) := List.getElem?_eq_getElem hi
        generalize hnm : prs[at_.toNat] = pr at hd hpr
        obtain ⟨nm, sp⟩ := pr
        have ed : d = pairD (nm, sp) := (Option.some.inj hd).symm
        subst ed
        cases hyd with
        | tup q1 q2 =>
          rename_i q zs
          match q2 with
          | .cons b1 (.cons b2 .nil) =>
            cases b1; cases b2
            refine ⟨_, rfl, _, rfl, p0, ys, at_, .ref q, rfl, rfl, SqL.of pG, e1, q, _, rfl, SqT.of (cut_in q1).2, rfl, _, _, rfl, _, _, rfl, rfl, ?_⟩
            refine ⟨show 4 ≤ sizeLine by decide +kernel, fun fl hfl => ⟨fl, rfl, ⟨_, SqL.of upd_same⟩, fun D hD => ?_⟩⟩
            have sf : Same G (upd G fl (.lst [.str "q", .str "qa", .str "qb", .str "qc"])) := Same.new hfl
            have hfl1 : upd G fl (.lst [.str "q", .str "qa", .str "qb", .str "qc"]) fl = some (.lst (freshs.map V.str)) := upd_same
            generalize upd G fl (.lst [.str "q", .str "qa", .str "qb", .str "qc"]) = G1 at sf hfl1 hD
            obtain ⟨fr, frs, efr, fr1, fr2⟩ := fresh_of vp3
            refine lc_list (K := K) (a := fl) (xs := freshs.map V.str) (fun i H' => Same G1 H' ∧ H' D = some (.lst (((freshs.take i).filter fun x => !decide (x ∈ prs.map (·.1))).map V.str))) ⟨Same.new hD, upd_same⟩ (fun i H' _ h => h.1.seq (SqL.of hfl1)) ?_ ?_
            · rintro i yy H' hi' ⟨sm, hl⟩
              rw [List.getElem?_map] at hi'
              obtain ⟨x, hx', rfl⟩ : ∃ x, freshs[i]? = some x ∧ yy = V.str x := by
                cases e : freshs[i]? with
                | none => rw [e] at hi'; cases hi'
                | some x => rw [e] at hi'; exact ⟨x, rfl, (Option.some.inj hi').symm⟩
              have i4 : i < 4 := (List.getElem?_eq_some_iff.mp hx').1
              have hysH := (hysG.same (sameCut (sf.trans sm)))
              have pH := sm _ _ (sf _ _ pG)
              refine ⟨rfl, ?_⟩
              refine ⟨_, rfl, _, rfl, p0, rfl, ⟨ys, SqL.of pH⟩, fun D2 hD2 => lc_list (K := K) (a := p0) (xs := ys) (fun j H2 => Same H' H2 ∧ H2 D2 = some (.lst (((prs.take j).map (·.1)).map V.str))) ⟨Same.new hD2, upd_same⟩ (fun j H2 _ h => h.1.seq (SqL.of pH)) ?_ ?_⟩
              · rintro j y2 H2 hj ⟨sm2, hl2⟩
                obtain ⟨e, he, hye⟩ := hysH.get hj
                rw [List.getElem?_map] at he
                obtain ⟨p2, hp2, rfl⟩ : ∃ p2, prs[j]? = some p2 ∧ e = pairD p2 := by
                  cases c : prs[j]? with
                  | none => rw [c] at he; cases he
                  | some p2 => rw [c] at he; exact ⟨p2, rfl, (Option.some.inj he).symm⟩
                have hj3 : j < prs.length := (List.getElem?_eq_some_iff.mp hp2).1
                cases hye with
                | tup r1 r2 =>
                  match r2 with
                  | .cons b1 (.cons b2 .nil) =>
                    cases b1; cases b2
                    refine ⟨rfl, ?_⟩
                    refine yes ?_
                    refine ⟨_, rfl, _, _, 0, .str p2.1, rfl, rfl, SqT.of (sm2 _ _ (cut_in r1).2), rfl, _, hl2, ?_, fun b o z => ?_, ?_⟩
                    · rw [List.length_map, List.length_map, List.length_take]
                      exact Nat.lt_of_le_of_lt (show min j prs.length ≤ 3 by omega) (by decide +kernel)
                    · rw [upd_ne (ne_of_none z hD2)]; exact sm2 _ _ z
                    · rw [upd_same, List.take_succ, hp2]
                      simp
              · rintro H2 ⟨sm2, hl2⟩
                rw [hyl, List.take_length] at hl2
                refine ⟨D2, _, rfl, .inl (SqL.of hl2), rfl, flat_strs _, _, rfl, ?_⟩
                rw [inV_strs]
                have more : ((freshs.take (i + 1)).filter fun x => !decide (x ∈ prs.map (·.1))) = ((freshs.take i).filter fun x => !decide (x ∈ prs.map (·.1))) ++ (if (!decide (x ∈ prs.map (·.1))) = true then [x] else []) := by
                  rw [List.take_succ, hx', List.filter_append, Option.toList_some, List.filter_cons, List.filter_nil]
                show if (!decide (x ∈ prs.map (·.1))) = true then _ else _
                cases cx : !decide (x ∈ prs.map (·.1))
                · refine iteF ⟨sm.trans sm2, ?_⟩
                  rw [more, cx]
                  simpa using sm2 _ _ hl
                · refine iteT ⟨_, rfl, _, sm2 _ _ hl, ?_, fun b o z => ?_, ?_⟩
                  · rw [List.length_map]
                    refine Nat.lt_of_le_of_lt (List.length_filter_le _ _) ?_
                    rw [List.length_take]
                    exact Nat.lt_of_le_of_lt (show min i freshs.length ≤ 4 by omega) (by decide +kernel)
                  · rw [upd_ne (ne_of_none z hD)]; exact sm2 _ _ (sm _ _ z)
                  · rw [upd_same, more, cx, if_pos rfl, List.map_append]; rfl
            · rintro G2 ⟨sm, hl⟩
              rw [List.length_map, List.take_length, efr] at hl
              refine ⟨D, _, 0, .str fr, rfl, rfl, SqL.of hl, at_zero _ _, ?_⟩
              have sG := sf.trans sm
              have S2 : Std (N3 st gl cl) G2 := Std.same SG sG
              have xN2 := xNames.same (sameCut sG)
              have xP2 := xPairs.same (sameCut sG)
              have lp : (prs.map pairD).length ≤ 3 := by rw [List.length_map]; exact vp3
              have le1 := len_cutD (prs.map pairD) none (some at_)
              have le2 := len_cutD (prs.map pairD) (some (at_ + 1)) none
              refine seq_lst (N := N3 st gl cl) (rda_cons (rd_tup S2 (rda_cons (rd_var rfl xN2) (rda_cons (rd_cat S2 (rd_cat S2 (rd_sl (lo := none) (hi := some at_) S2 (rd_var rfl xP2) po0 (poV rfl)) (rd_lst S2 (rda_cons (rd_tup S2 (rda_cons (rd_var rfl (.str nm)) (rda_cons (rd_op (f := .int (0 - sp)) rd_int (rd_var rfl (.int sp)) fun H x y s hx hy Q kk => by cases hx; cases hy; exact ⟨_, _, rfl, rfl, kk _ _ (Same.refl _) (.int _)⟩) rda_nil)) (by show 2 ≤ 1000; decide)) rda_nil) (by show 1 ≤ 1000; decide)) (by show _ + 1 ≤ 1000; omega))
                (rd_sl (lo := some (at_ + 1)) (hi := none) S2 (rd_var rfl xP2) (poS rfl) po0) (by rw [List.length_append]; show _ + 1 + _ ≤ 1000; omega)) (rda_cons (rd_var rfl (.int m)) (rda_cons (rd_var rfl (.int l)) rda_nil)))) (by show 4 ≤ 1000; decide)) rda_nil) (by show 1 ≤ 1000; decide) fun a vs G3 s23 ha hvs => ?_
              have c0 : ∀ t : Str × Int, PyData.tuple [.list (ns.map PyData.str), .list ((Wb.cutD (prs.map pairD) none (some at_) ++ [pairD t]) ++ Wb.cutD (prs.map pairD) (some (at_ + 1)) none), .int m, .int l] = ytD (ns, prs.set at_.toNat t, m, l) := fun t => by
                unfold ytD
                rw [← set_data hi t, ei]
              have hvs0 : DxAll (cut (N3 st gl cl) G3) vs [ytD (ns, prs.set at_.toNat (nm, 0 - sp), m, l)] := by
                rw [← c0 (nm, 0 - sp)]
                exact hvs
              have naG : a ≠ p0 := fun e => by have := s23 _ _ (sG _ _ pG); rw [← e, ha] at this; cases this
              have naN : a ≠ n0 := fun e => by have := s23 _ _ (sG _ _ nG); rw [← e, ha] at this; cases this
              have s3a : Same G2 (upd G3 a (.lst vs)) := s23.trans (Same.new ha)
              have sGa := sG.trans s3a
              have ga : upd G3 a (.lst vs) a = some (.lst vs) := upd_same
              have hvs1 : DxAll (cut (fun b => N3 st gl cl b ∨ b = a) (upd G3 a (.lst vs))) vs [ytD (ns, prs.set at_.toNat (nm, 0 - sp), m, l)] := hvs0.same fun b o z => by
                obtain ⟨z1, z2⟩ := cut_in z
                have nb : b ≠ a := ne_of_none z2 ha
                rw [cut_of fun q => q.elim z1 nb, upd_ne nb]
                exact z2
              have aG : G a = none := sG.free (s23.free ha)
              have naN3 : ¬ N3 st gl cl a := LG.new aG
              generalize upd G3 a (.lst vs) = G4 at s3a sGa ga hvs1
              have S4 : Std (N3 st gl cl) G4 := Std.same SG sGa
              refine seq_for (N := N3 st gl cl) (rda_cons (rd_tup S4 (rda_cons (rd_var rfl (.str nm)) (rda_cons (step_rd rfl) rda_nil)) (by show 2 ≤ 1000; decide)) (rda_cons (rd_tup S4 (rda_cons (rd_var rfl (.str fr)) (rda_cons (rd_var rfl (.int sp)) rda_nil)) (by show 2 ≤ 1000; decide)) rda_nil)) (by show 2 ≤ 1000; decide) fun b ws G5 s45 hb hws => ?_
              have KA : ∀ {H'' : Hp}, Kept (fun x => x = a) G4 H'' → H'' n0 = some (.lst xs) ∧ H'' p0 = some (.lst ys) := fun kk => ⟨kk _ _ (fun e => naN e.symm) (sGa _ _ nG), kk _ _ (fun e => naG e.symm) (sGa _ _ pG)⟩
              have s4b : Same G4 (upd G5 b (.lst ws)) := s45.trans (Same.new hb)
              have nab : b ≠ a := fun e => by have := s45 _ _ ga; rw [← e, hb] at this; cases this
              refine ⟨fun i σ H' => (∃ z, σ = [some (.ref st), some (.ref p), some (.ref r), some (.ref n0), some (.ref p0), some (.int m), some (.int l), some (.int at_), some (.str nm), some (.int sp), some (.str fr), some (.ref a), z, none, none, none]) ∧ Kept (fun x => x = a) (upd G5 b (.lst ws)) H' ∧
                ∃ vs', H' a = some (.lst vs') ∧ vs'.length ≤ 10 + i ∧ DxAll (cut (fun b => N3 st gl cl b ∨ b = a) H') vs' ((cands ns prs m l at_.toNat nm sp fr).map ytD |>.take (1 + i)), ⟨⟨none, rfl⟩, Kept.refl _ _, vs, s4b _ _ ga, ?_, hvs1.same (sameCut s4b)⟩, fun i σ H' _ h => ?_, ?_, ?_⟩
              · have := hvs1.len
                rw [this]; exact (by decide : 1 ≤ 10)
              · exact SqL.of (h.2.1 _ _ nab upd_same)
              · rintro i x σ H' hix ⟨⟨z, rfl⟩, kp, vs', hv', hvl', hvd'⟩
                have k4 : Kept (fun x => x = a) G4 H' := (Same.kept s4b).trans kp
                obtain ⟨hn', hp'⟩ := KA k4
                have kN : ∀ {H1 H2 : Hp}, Kept (fun x => x = a) H1 H2 → Same (cut (fun b => N3 st gl cl b ∨ b = a) H1) (cut (fun b => N3 st gl cl b ∨ b = a) H2) := fun kk => (keptMono (fun b hb => .inr hb) kk).cut
                have S' : Std (fun b => N3 st gl cl b ∨ b = a) H' := fun c hc => by
                  rcases hc with hc | hc
                  · obtain ⟨o, e⟩ := S4 c hc
                    exact ⟨o, k4 _ _ (fun q => naN3 (by rw [← q]; exact hc)) e⟩
                  · exact ⟨_, by rw [hc]; exact hv'⟩
                have xN' : Dx (cut (fun b => N3 st gl cl b ∨ b = a) H') (.ref n0) (.list (ns.map PyData.str)) := .lst (cutAt (fun q => q.elim nn0 fun e => naN e.symm) hn') (by rw [exs]; exact strs_dx ns)
                have hys' : DxAll (cut (fun b => N3 st gl cl b ∨ b = a) H') ys (prs.map pairD) := by
                  have h4 := hysG.same (sameCut sGa)
                  have h5 : DxAll (cut (fun b => N3 st gl cl b ∨ b = a) G4) ys (prs.map pairD) := by
                    have gen : ∀ {ys : List V} {prs : List (Str × Int)}, DxAll (cut (N3 st gl cl) G4) ys (prs.map pairD) → DxAll (cut (fun b => N3 st gl cl b ∨ b = a) G4) ys (prs.map pairD) := by
                      intro ys prs hh
                      induction prs generalizing ys with
                      | nil => cases hh; exact .nil
                      | cons p r ih =>
                        cases hh with
                        | cons h1 h2 =>
                          refine .cons ?_ (ih h2)
                          cases h1 with
                          | tup r1 r2 =>
                            obtain ⟨z1, z2⟩ := cut_in r1
                            match r2 with
                            | .cons b1 (.cons b2 .nil) =>
                              cases b1; cases b2
                              exact .tup (cutAt (fun q => q.elim z1 fun e => by rw [e, ga] at z2; cases z2) z2) (.cons (.str _) (.cons (.int _) .nil))
                    exact gen h4
                  exact h5.same (kN k4)
                have xP' : Dx (cut (fun b => N3 st gl cl b ∨ b = a) H') (.ref p0) (.list (prs.map pairD)) := .lst (cutAt (fun q => q.elim np0 fun e => naG e.symm) hp') hys'
                have wl : ws.length = 2 := hws.len
                have i2 : i < 2 := by have := (List.getElem?_eq_some_iff.mp hix).1; omega
                obtain ⟨e, he, hxe⟩ := hws.get hix
                obtain ⟨t, rfl, ht⟩ : ∃ t : Str × Int, e = pairD t ∧ ((cands ns prs m l at_.toNat nm sp fr).map ytD)[1 + i]? = some (ytD (ns, prs.set at_.toNat t, m, l)) := by
                  match i, i2, he with
                  | 0, _, he => exact ⟨(nm, stepX sp), (Option.some.inj he).symm, rfl⟩
                  | 1, _, he => exact ⟨(fr, sp), (Option.some.inj he).symm, rfl⟩
                have xe' : Dx (cut (fun b => N3 st gl cl b ∨ b = a) H') x (pairD t) := by
                  cases hxe with
                  | tup r1 r2 =>
                    rename_i q9 zs9
                    obtain ⟨z1, z2⟩ := cut_in r1
                    match r2 with
                    | .cons b1 (.cons b2 .nil) =>
                      cases b1; cases b2
                      have na' : ¬ (q9 = a) := fun e => by rw [e, s45 _ _ ga] at z2; cases z2
                      exact .tup (cutAt (fun q => q.elim z1 na') (kp _ _ na' (Same.new hb _ _ z2))) (.cons (.str _) (.cons (.int _) .nil))
                refine app_rd (N := fun b => N3 st gl cl b ∨ b = a) rfl hv' (by omega) (rd_tup S' (rda_cons (rd_var rfl xN') (rda_cons (rd_cat S' (rd_cat S' (rd_sl (lo := none) (hi := some at_) S' (rd_var rfl xP') po0 (poV rfl)) (rd_lst S' (rda_cons (rd_var rfl xe') rda_nil) (by show 1 ≤ 1000; decide)) (by show _ + 1 ≤ 1000; omega))
                  (rd_sl (lo := some (at_ + 1)) (hi := none) S' (rd_var rfl xP') (poS rfl) po0) (by rw [List.length_append]; show _ + 1 + _ ≤ 1000; omega)) (rda_cons (rd_var rfl (.int m)) (rda_cons (rd_var rfl (.int l)) rda_nil)))) (by show 4 ≤ 1000; decide)) fun v H2 sH2 hvx => ?_
                refine ⟨⟨_, rfl⟩, kp.trans ((Same.kept sH2).trans (Kept.upd rfl)), vs' ++ [v], upd_same, by rw [List.length_append]; show _ + 1 ≤ _; omega, ?_⟩
                have up : Same (cut (fun b => N3 st gl cl b ∨ b = a) H2) (cut (fun b => N3 st gl cl b ∨ b = a) (upd H2 a (.lst (vs' ++ [v])))) := Kept.cut (Kept.upd (.inr rfl))
                have all := ((hvd'.same (sameCut sH2)).snoc hvx).same up
                rw [show 1 + (i + 1) = (1 + i) + 1 by omega, List.take_succ, ht, Option.toList_some, ← c0 t]
                exact all
              · rintro σ H' ⟨⟨z, rfl⟩, kp, vs', hv', hvl', hvd'⟩
                rw [show ws.length = 2 from hws.len] at hvl' hvd'
                have k4 : Kept (fun x => x = a) G4 H' := (Same.kept s4b).trans kp
                obtain ⟨hn', hp'⟩ := KA k4
                have K4 : Kept (fun x => x = a) G H' := (Same.kept sGa).trans k4
                have L' : LS st gl cl (n + 1) H' := by
                  obtain ⟨⟨d, gs, cs, t, a1, a2, a3, h⟩, ne⟩ := LG
                  exact ⟨⟨d, gs, cs, t, K4 _ _ (fun q => naN3 (.inl q.symm)) a1, K4 _ _ (fun q => naN3 (.inr (.inl q.symm))) a2, K4 _ _ (fun q => naN3 (.inr (.inr q.symm))) a3, h⟩, ne⟩
                have S' : Std (N3 st gl cl) H' := fun b hb => L'.has hb
                have xN' : Dx (cut (N3 st gl cl) H') (.ref n0) (.list (ns.map PyData.str)) := .lst (cutAt nn0 hn') (by rw [exs]; exact strs_dx ns)
                have hysF : DxAll H' ys (prs.map pairD) := by
                  have h1 := (hysG.same cut_same)
                  have gen : ∀ {ys : List V} {prs : List (Str × Int)}, DxAll G ys (prs.map pairD) → DxAll H' ys (prs.map pairD) := by
                    intro ys prs hh
                    induction prs generalizing ys with
                    | nil => cases hh; exact .nil
                    | cons p r ih =>
                      cases hh with
                      | cons h1 h2 =>
                        refine .cons ?_ (ih h2)
                        cases h1 with
                        | tup r1 r2 =>
                          match r2 with
                          | .cons b1 (.cons b2 .nil) =>
                            cases b1; cases b2
                            exact .tup (K4 _ _ (fun e => by rw [e, aG] at r1; cases r1) r1) (.cons (.str _) (.cons (.int _) .nil))
                  exact gen h1
                have xP' : Dx (cut (N3 st gl cl) H') (.ref p0) (.list (prs.map pairD)) := .lst (cutAt np0 hp') (pairs_cut L' hysF)
                have xS' : Dx (cut (N3 st gl cl) H') (.ref a) (.list (((cands ns prs m l at_.toNat nm sp fr).map ytD).take 3)) := .lst (cutAt naN3 hv') (hvd'.same (cutMono fun b hb => .inl hb))
                have mx : (if l - 1 > 0 then l - 1 else 0) = (if (l - 1 : Int) > 0 then l - 1 else 0) := rfl
                refine seq_cat (N := N3 st gl cl) S' (rd_var rfl xS') (rd_lst S' (rda_cons (rd_tup S' (rda_cons (rd_var rfl xN') (rda_cons (rd_var rfl xP') (rda_cons (rd_op (d := .int (m % 100)) (e := .int 1) (f := .int (m % 100 + 1)) (rd_op (d := .int m) (e := .int 100) (f := .int (m % 100)) (rd_var rfl (.int m)) rd_int fun H x y s hx hy Q kk => by cases hx; cases hy; exact ⟨_, _, rfl, rfl, (by decide : (0 : Int) < 100), kk _ _ (Same.refl _) (.int _)⟩) rd_int fun H x y s hx hy Q kk => by cases hx; cases hy; exact ⟨_, _, rfl, rfl, kk _ _ (Same.refl _) (.int _)⟩) (rda_cons (rd_var rfl (.int l)) rda_nil)))) (by show 4 ≤ 1000; decide))
                  (rda_cons (rd_tup S' (rda_cons (rd_var rfl xN') (rda_cons (rd_var rfl xP') (rda_cons (rd_var rfl (.int m)) (rda_cons (d := .int (if l - 1 > 0 then l - 1 else 0)) (fun H1 s_ Q kk => ⟨_, rfl, _, _, rfl, rfl, 0, l - 1, rfl, kk _ _ (Same.refl _) (.int _)⟩) rda_nil)))) (by show 4 ≤ 1000; decide)) rda_nil)) (by show 2 ≤ 1000; decide)) (by show 3 + 2 ≤ 1000; decide) fun v5 H5 s5 x5 => ?_
                have S5 := Std.same S' s5
                have xN5 := xN'.same (sameCut s5)
                have xP5 := xP'.same (sameCut s5)
                refine seq_cat (N := N3 st gl cl) S5 (rd_var rfl x5) (rd_lst S5 (rda_cons (rd_tup S5 (rda_cons (rd_revL S5 rfl xN5) (rda_cons (rd_var rfl xP5) (rda_cons (rd_var rfl (.int m)) (rda_cons (rd_var rfl (.int l)) rda_nil)))) (by show 4 ≤ 1000; decide))
                  (rda_cons (rd_tup S5 (rda_cons (rd_var rfl xN5) (rda_cons (rd_revL S5 rfl xP5) (rda_cons (rd_var rfl (.int m)) (rda_cons (rd_var rfl (.int l)) rda_nil)))) (by show 4 ≤ 1000; decide)) rda_nil)) (by show 2 ≤ 1000; decide)) (by show 5 + 2 ≤ 1000; decide) fun v6 H6 s6 x6 => ?_
                have S6 := Std.same S5 s6
                have xN6 := xN5.same (sameCut s6)
                have xP6 := xP5.same (sameCut s6)
                refine seq_cat (N := N3 st gl cl) S6 (rd_var rfl x6) (rd_lst S6 (rda_cons (rd_tup S6 (rda_cons (rd_var rfl xN6) (rda_cons (rd_sl (lo := none) (hi := some 1) S6 (rd_var rfl xP6) po0 po1) (rda_cons (rd_var rfl (.int m)) (rda_cons (rd_var rfl (.int l)) rda_nil)))) (by show 4 ≤ 1000; decide))
                  (rda_cons (rd_tup S6 (rda_cons (rd_orL (rd_sl (lo := none) (hi := some (-1)) S6 (rd_var rfl xN6) po0 poN) (rd_lst S6 (rda_cons rd_str rda_nil) (by show 1 ≤ 1000; decide))) (rda_cons (rd_var rfl xP6) (rda_cons (rd_var rfl (.int m)) (rda_cons (rd_var rfl (.int l)) rda_nil)))) (by show 4 ≤ 1000; decide)) rda_nil)) (by show 2 ≤ 1000; decide)) (by show 7 + 2 ≤ 1000; decide) fun v7 H7 s7 x7 => ?_
                rw [cands_data ns prs m l at_.toNat nm fr sp vp1] at x7
                have xN7 := xN6.same (sameCut s7)
                have xP7 := xP6.same (sameCut s7)
                have sH7 : Same H' H7 := (s5.trans s6).trans s7
                have L7 := L'.same sH7
                cases x7 with
                | lst g1 g2 =>
                  rename_i b7 vs7
                  obtain ⟨nb7, g1⟩ := cut_in g1
                  have KGa : Kept (fun x => x = a ∨ N3 st gl cl x) H H7 := ((keptMono (fun b hb => .inr hb) KG).trans (keptMono (fun b hb => .inl hb) K4)).trans (Same.kept sH7)
                  have aH : H a = none := keptFree KG naN3 aG
                  have KK : Kept (N3 st gl cl) H H7 := fun b o nb z => KGa b o (fun q => q.elim (fun e => by rw [e, aH] at z; cases z) nb) z
                  have y7 : YardAt CY H7 p (ns.map PyData.str) (prs.map pairD) m l := (hy.same (keptMono hDm.2 KK).cut).same cut_same
                  refine ⟨_, rfl, b7, rfl, ⟨vs7, SqL.of g1⟩, for_list (K := K) (a := b7) (xs := vs7) (fun i σ H8 => Same H7 H8 ∧ ∃ z w u, σ = [some (.ref st), some (.ref p), some (.ref r), some (.ref n0), some (.ref p0), some (.int m), some (.int l), some (.int at_), some (.str nm), some (.int sp), some (.str fr), some (.ref b7), z, w, u, none]) ⟨Same.refl _, _, none, none, rfl⟩ (fun i σ H8 _ h => h.1.seq (SqL.of g1)) ?_ ?_⟩
                  · rintro i o_ σ H8 hi8 ⟨s8, z, w, u, rfl⟩
                    obtain ⟨d, hd, hx8⟩ := g2.get hi8
                    rw [List.getElem?_map] at hd
                    obtain ⟨c, hc, rfl⟩ : ∃ c, (cands ns prs m l at_.toNat nm sp fr)[i]? = some c ∧ d = ytD c := by
                      cases e : (cands ns prs m l at_.toNat nm sp fr)[i]? with
                      | none => rw [e] at hd; cases hd
                      | some c => rw [e] at hd; exact ⟨c, rfl, (Option.some.inj hd).symm⟩
                    have vc := cands_ok vn hpr (freshs_ok fr fr1) fr2 c (List.mem_of_getElem? hc)
                    obtain ⟨cn, cp, cm, cl_⟩ := c
                    have hx9 := hx8.same (sameCut s8)
                    have can9 := shaped_can (ytD_can vc)
                    cases hx9 with
                    | tup r1 r2 =>
                      rename_i o9 zs9
                      obtain ⟨no9, r1⟩ := cut_in r1
                      match r2 with
                      | .cons (v := v0) b0 (.cons (v := v1) b1 (.cons b2 (.cons b3 .nil))) =>
                        cases b2; cases b3
                        refine ⟨_, rfl, o9, [v0, v1, .int cm, .int cl_], 0, v0, rfl, rfl, SqT.of r1, rfl, _, rfl, o9, [v0, v1, .int cm, .int cl_], 1, v1, rfl, rfl, SqT.of r1, rfl, _, rfl, o9, [v0, v1, .int cm, .int cl_], 2, .int cm, rfl, rfl, SqT.of r1, rfl, _, rfl, o9, [v0, v1, .int cm, .int cl_], 3, .int cl_, rfl, rfl, SqT.of r1, rfl, rfl, rfl, fun x dx hx hdx hne => ?_⟩
                        have sX : Same H8 (upd (upd H8 dx (.own x)) x (.ins CY dx [])) := fun b u z => by
                          rw [upd_ne (ne_of_none z hx), upd_ne (ne_of_none z hdx)]
                          exact z
                        have f0 := (b0.same cut_same)
                        have f1 := (b1.same cut_same)
                        refine ⟨x, dx, v0, v1, .int cm, .int cl_, _, _, .int cm, .int cl_, rfl, upd_same, f0.same sX, f1.same sX, .int _, .int _, vc.shortS, vc.shortB, fun _ H9 keep ya => ⟨rfl, ?_⟩, fun hf => by rw [vc.yard] at hf; cases hf⟩
                        have s9 : Same H8 H9 := fun b u z => keep b u (ne_of_none z hx) (sX _ _ z)
                        have s79 := s8.trans s9
                        have ya : YardAt CY H9 x (cn.map PyData.str) (cp.map pairD) cm cl_ := ya
                        obtain ⟨dp, tap, tbp, hpp, _, _⟩ := id (y7.same s79)
                        obtain ⟨dq, taq, tbq, hqq, _, _⟩ := id ya
                        have yp := y7.same s79
                        have eqv1 : eqY (ns.map PyData.str) (prs.map pairD) m l (cn.map PyData.str) (cp.map pairD) cm cl_ = decide (((ns, prs, m, l) : YT) = (cn, cp, cm, cl_)) := eqY_yt (ns, prs, m, l) (cn, cp, cm, cl_)
                        have eqv2 : PyData.eqv (ytD (cn, cp, cm, cl_)) (ytD (ns, prs, m, l)) = decide (((ns, prs, m, l) : YT) = (cn, cp, cm, cl_)) := (eqv_yt _ _).trans (decide_eq_decide.mpr eq_comm)
                        refine ⟨_, rfl, _, rfl, p, dp, _, _, rfl, hpp, .ins hqq, p, _, _, m, l, .ref x, rfl, yp, hv, .inl ⟨x, _, _, cm, cl_, rfl, ya, vc.yv, _, rfl, ?_⟩⟩
                        refine ⟨_, rfl, _, rfl, _, rfl, _, rfl, _, rfl, show 4 ≤ sizeLine by decide +kernel, fun tq htq => ?_⟩
                        have sq : Same H9 (upd H9 tq (.tup [.ref n0, .ref p0, .int m, .int l])) := Same.new htq
                        have s7q := s79.trans sq
                        have xo : Dx (upd H9 tq (.tup [.ref n0, .ref p0, .int m, .int l])) (.ref o9) (ytD (cn, cp, cm, cl_)) := (hx8.same cut_same).same s7q
                        have xr : Dx (upd H9 tq (.tup [.ref n0, .ref p0, .int m, .int l])) (.ref tq) (ytD (ns, prs, m, l)) := .tup upd_same (.cons ((xN7.same cut_same).same s7q) (.cons ((xP7.same cut_same).same s7q) (.cons (.int m) (.cons (.int l) .nil))))
                        have pp2 := sq _ _ hpp
                        have qq2 := sq _ _ hqq
                        have yp2 := yp.same sq
                        have ya2 := ya.same sq
                        generalize upd H9 tq (.tup [.ref n0, .ref p0, .int m, .int l]) = Hq at sq s7q xo xr pp2 qq2 yp2 ya2
                        refine ⟨_, _, Dx.dp xo can9, Dx.dp xr (shaped_can (ytD_can vn)), ytD_can vc, ytD_can vn, rfl, _, rfl, ?_⟩
                        rw [eqv1, eqv2, decide_eq_true rfl]
                        refine iteF ?_
                        refine ⟨_, rfl, _, rfl, p, dp, _, rfl, pp2, .ins qq2, p, _, _, m, l, .ref x, rfl, yp2, hv, .inl ⟨x, _, _, cm, cl_, rfl, ya2, vc.yv, _, rfl, ?_⟩⟩
                        refine ⟨_, rfl, _, rfl, p, dp, _, _, rfl, pp2, .ins qq2, p, _, _, m, l, .ref x, rfl, yp2, hv, .inl ⟨x, _, _, cm, cl_, rfl, ya2, vc.yv, _, rfl, rfl, _, rfl, ?_⟩⟩
                        rw [eqv1, decide_eq_false (by cases decide (((ns, prs, m, l) : YT) = (cn, cp, cm, cl_)) <;> exact fun e => by cases e)]
                        refine iteF ?_
                        exact ⟨s7q, _, _, _, rfl⟩
                  · rintro σ H8 ⟨s8, z, w, u, rfl⟩
                    exact k H8 (L7.same s8) (KK.trans (Same.kept s8))
end
end L2.K01
/-! K01y -/
set_option Elab.async false
set_option linter.all false
set_option maxRecDepth 100000
set_option maxHeartbeats 4000000
namespace L2.K01
open PySem PySem.Spec PyProof.Rows L2.Wb
/-! what Yard(..) binds -/
abbrev kws2 : List (Str × V) := [("most", .int 20), ("lean", .int 3)]
abbrev p5 : List Str := ["self", "things", "beams", "most", "lean"]
section
variable {K : PySem.W.Frag} {f : Addr} {fd : FuncData}
theorem yard_bA (F : FunD K "__init__" "Yard.__init__" (defArgs sInit) (defBody sInit) (defScope sInit) [] kws2 f fd) : ∃ g : List Value → List Value → List Value, KBn K fd p5 3 ["most", "lean"] g (fun vs zs => vs ++ zs) := by
  obtain ⟨mv, h⟩ := F.kbinds0 (ps := p5) 3 ["most", "lean"] [] (fun us mv ws => us ++ ws) (by simp) (by simp) (fun r1 _ r3 => r1.append r3) fun D doc pm an cdv ct us mv ws h1 h2 h3 => by
    match us, mv, ws, h1, h2, h3 with
    | [_, _, _], [], [_, _], _, _, _ => rfl
  exact ⟨_, h⟩
theorem vals_rev {vs : List V} {us : List Value} (h : Vals vs us) : Vals vs.reverse us.reverse := h.reverse
theorem yard_bB (F : FunD K "__init__" "Yard.__init__" (defArgs sInit) (defBody sInit) (defScope sInit) [] kws2 f fd) : ∃ g : List Value → List Value → List Value, KBn K fd p5 1 ["lean", "most", "beams", "things"] g (fun vs zs => vs ++ zs.reverse) := by
  obtain ⟨mv, h⟩ := F.kbinds0 (ps := p5) 1 ["lean", "most", "beams", "things"] [] (fun us mv ws => us ++ ws.reverse) (by simp) (by simp) (fun r1 _ r3 => r1.append (vals_rev r3)) fun D doc pm an cdv ct us mv ws h1 h2 h3 => by
    match us, mv, ws, h1, h2, h3 with
    | [_], [], [_, _, _, _], _, _, _ => rfl
  exact ⟨_, h⟩
theorem yard_bC (F : FunD K "__init__" "Yard.__init__" (defArgs sInit) (defBody sInit) (defScope sInit) [] kws2 f fd) : ∃ g : List Value → List Value → List Value, KBn K fd p5 3 ["most"] g (fun vs zs => vs ++ (zs ++ [.int 3])) := by
  obtain ⟨mv, h⟩ := F.kbinds0 (ps := p5) 3 ["most"] [("lean", .int 3)] (fun us mv ws => us ++ (ws ++ mv)) (by simp) (by simp) (fun r1 r2 r3 => r1.append (r3.append r2)) fun D doc pm an cdv ct us mv ws h1 h2 h3 => by
    match us, mv, ws, h1, h2, h3 with
    | [_, _, _], [_], [_], _, _, _ => exact ⟨_, _, _, _, _, _, rfl, rfl, rfl⟩
  exact ⟨_, h⟩
theorem yard_bI (F : FunD K "__init__" "Yard.__init__" (defArgs sInit) (defBody sInit) (defScope sInit) [] kws2 f fd) : ∃ ds, Vals [.int 20, .int 3] ds ∧ Binds K fd p5 ds := by
  refine F.binds0 (ps := p5) 3 (by simp) rfl fun D doc pm an cdv ct us ks h1 h2 => ?_
  match us, ks, h1, h2 with
  | [_, _, _], [_, _], _, _ => exact ⟨_, _, _, _, _, _, rfl, rfl, _, _, _, _, _, _, rfl, rfl, rfl⟩
end
end L2.K01
/-! K01z -/
set_option Elab.async false
set_option linter.all false
set_option maxRecDepth 100000
set_option maxHeartbeats 4000000
namespace L2.K01
open PySem PySem.Spec PyProof.Rows L2.Wb
/-- list(x) of data that is told of a part of the heap -/
def rLstG : List V → Hp → VK → Prop := fun xs H Q => ∃ (G : Hp) (x : V) (d : PyData) (ds : List PyData), xs = [x] ∧ Same G H ∧ Dx G x d ∧ seqOf d = some ds ∧ ∀ l vs, H l = none → DxAll G vs ds → Q (.ref l) (upd H l (.lst vs))
theorem call_lstG {X : Cx} : CallR X (.type "list") rLstG := by
  intro pins s σ H xs us Q I r ⟨G, x, d, ds, ex, sm, h, e, k⟩
  subst ex
  refine call_list_of pins s σ H _ us Q I r ?_
  cases h with
  | lst h1 h2 => cases e; exact ⟨_, _, rfl, .inl (SqL.of (sm _ _ h1)), fun l hl => k l _ hl h2⟩
  | tup h1 h2 => cases e; exact ⟨_, _, rfl, .inr (SqT.of (sm _ _ h1)), fun l hl => k l _ hl h2⟩
  | _ => cases e
/-- a part as it is handed: a list anew, all else as it is -/
def Hnd (N : Addr → Prop) (H0 H : Hp) (v v' : V) (d : PyData) : Prop := ((∀ ds, d ≠ .list ds) ∧ v' = v) ∨ ∃ ds c us, d = .list ds ∧ v' = .ref c ∧ H0 c = none ∧ H c = some (.lst us) ∧ DxAll (cut N H) us ds
theorem Hnd.same {N : Addr → Prop} {H0 H H' : Hp} {v v' : V} {d : PyData} (h : Hnd N H0 H v v' d) (e : Same H H') : Hnd N H0 H' v v' d := by
  rcases h with h | ⟨ds, c, us, h1, h2, h3, h4, h5⟩
  · exact .inl h
  · exact .inr ⟨ds, c, us, h1, h2, h3, e _ _ h4, h5.same (sameCut e)⟩
def rIsl (K : PySem.W.Frag) : TE := tIf (tB (tCB (rIsi K) (tCons (tVar 8) (tCons (tC (.ty "list")) tNil)))) (tCB rLstG (tCons (tVar 8) tNil)) (tVar 8)
theorem hand_one {K : PySem.W.Frag} {N : Addr → Prop} {H0 H : Hp} {σ : L2.St} {v : V} {d : PyData} {Q : VK} (h8 : σ[8]? = some (some v)) (s0 : Same H0 H) (hd : Dx (cut N H) v d) (k : ∀ v' H', Same H H' → Hnd N H0 H' v v' d → Q v' H') : rIsl K σ H Q := by
  have hd' := hd.same cut_same
  refine ⟨_, h8, v, _, _, _, _, rfl, .ty "list", hd'.tyX, kit_ty (k_list d), _, rfl, ?_⟩
  cases hd with
  | lst a1 a2 =>
    refine iteT ⟨_, h8, cut N H, _, _, _, rfl, cut_same, .lst a1 a2, rfl, fun l vs hl hvs => ?_⟩
    exact k _ _ (Same.new hl) (.inr ⟨_, l, vs, rfl, rfl, s0.free hl, upd_same, hvs.same (sameCut (Same.new hl))⟩)
  | non => refine iteF ⟨_, h8, k _ H (Same.refl _) (.inl ⟨fun ds e => (by cases e), rfl⟩)⟩
  | bl b => refine iteF ⟨_, h8, k _ H (Same.refl _) (.inl ⟨fun ds e => (by cases e), rfl⟩)⟩
  | int b => refine iteF ⟨_, h8, k _ H (Same.refl _) (.inl ⟨fun ds e => (by cases e), rfl⟩)⟩
  | str b => refine iteF ⟨_, h8, k _ H (Same.refl _) (.inl ⟨fun ds e => (by cases e), rfl⟩)⟩
  | tup a b => refine iteF ⟨_, h8, k _ H (Same.refl _) (.inl ⟨fun ds e => (by cases e), rfl⟩)⟩
  | dct a b => refine iteF ⟨_, h8, k _ H (Same.refl _) (.inl ⟨fun ds e => (by cases e), rfl⟩)⟩
theorem Hnd.low {N M : Addr → Prop} {H0 H : Hp} {v v' : V} {d : PyData} (m : ∀ b, N b → M b) (h : Hnd M H0 H v v' d) : Hnd N H0 H v v' d := by
  rcases h with h | ⟨ds, c, us, h1, h2, h3, h4, h5⟩
  · exact .inl h
  · exact .inr ⟨ds, c, us, h1, h2, h3, h4, h5.same (cutMono m)⟩
/-- an item is put behind the list at D -/
theorem Hnd.put {N : Addr → Prop} {H0 H : Hp} {v v' : V} {d : PyData} {D : Addr} {o : HO} (h : Hnd (fun b => N b ∨ b = D) H0 H v v' d) (n : v' ≠ .ref D) : Hnd (fun b => N b ∨ b = D) H0 (upd H D o) v v' d := by
  rcases h with h | ⟨ds, c, us, h1, h2, h3, h4, h5⟩
  · exact .inl h
  · have nc : c ≠ D := fun e => n (by rw [h2, e])
    exact .inr ⟨ds, c, us, h1, h2, h3, by rw [upd_ne nc]; exact h4, h5.same (Kept.cut (Kept.upd (.inr rfl)))⟩
/-- handed: both parts -/
theorem handed_run {K : PySem.W.Frag} {N : Addr → Prop} {H : Hp} {σ : L2.St} {r : Addr} {vN vP vH vS : V} {dN dP : PyData} {Q : VK} (h4 : σ[4]? = some (some (.ref r))) (hl8 : 8 < σ.length) (hr : H r = some (.lst [vN, vP, vH, vS])) (xN : Dx (cut N H) vN dN) (xP : Dx (cut N H) vP dP)
    (k : ∀ D v0 v1 H', Same H H' → H D = none → H' D = some (.lst [v0, v1]) → v0 ≠ .ref D → v1 ≠ .ref D → Hnd (fun b => N b ∨ b = D) H H' vN v0 dN → Hnd (fun b => N b ∨ b = D) H H' vP v1 dP → Q (.ref D) H') :
    tLc (iList K (tSl (rSlL K) (tVar 4) tNoPart (tPart (tC (.int 2))))) (gName 8) tYes (rIsl K) [8] σ H Q := by
  refine ⟨_, h4, 2, rfl, r, _, rfl, SqL.of hr, fun sl hsl => ⟨sl, rfl, ⟨_, SqL.of upd_same⟩, fun D hD => ?_⟩⟩
  have s1 : Same H (upd H sl (.lst (cutV [vN, vP, vH, vS] none (some 2)))) := Same.new hsl
  have g1 : upd H sl (.lst (cutV [vN, vP, vH, vS] none (some 2))) sl = some (.lst [vN, vP]) := upd_same
  generalize upd H sl (.lst (cutV [vN, vP, vH, vS] none (some 2))) = H1 at s1 g1 hD
  have DH : H D = none := s1.free hD
  have nref : ∀ {v : V} {d : PyData}, Dx (cut N H) v d → v ≠ .ref D := fun hd e => by
    rw [e] at hd
    cases hd with
    | lst a _ => rw [(cut_in a).2] at DH; cases DH
    | tup a _ => rw [(cut_in a).2] at DH; cases DH
    | dct a _ => rw [(cut_in a).2] at DH; cases DH
  refine lc_list (K := K) (a := sl) (xs := [vN, vP]) (fun i H' => Same H1 H' ∧ ∃ us, H' D = some (.lst us) ∧ us.length = i ∧ (∀ v0, us[0]? = some v0 → v0 ≠ .ref D ∧ Hnd (fun b => N b ∨ b = D) H H' vN v0 dN) ∧ (∀ v1, us[1]? = some v1 → v1 ≠ .ref D ∧ Hnd (fun b => N b ∨ b = D) H H' vP v1 dP)) ⟨Same.new hD, [], upd_same, rfl, by simp, by simp⟩ (fun i H' _ h => SqL.of (h.1 _ _ g1)) ?_ ?_
  · rintro i y H' hi ⟨sm, us, hu, hul, h0, h1⟩
    have s1m := s1.trans sm
    refine ⟨by show ((σ.set 8 none).set 8 (some y)).set 8 none = σ.set 8 none; rw [List.set_set, List.set_set], ?_⟩
    refine yes ?_
    have h8 : ((σ.set 8 none).set 8 (some y))[8]? = some (some y) := List.getElem?_set_self (by rw [List.length_set]; exact hl8)
    have up : ∀ {v : V} {d : PyData}, Dx (cut N H) v d → Dx (cut (fun b => N b ∨ b = D) H') v d := fun hd => hd.same fun b o z => by
      obtain ⟨z1, z2⟩ := cut_in z
      rw [cut_of fun q => q.elim z1 (ne_of_none z2 DH)]
      exact s1m _ _ z2
    have go : ∀ (v' : V) (H2 : Hp) (v : V) (d : PyData), Dx (cut N H) v d → Same H' H2 → Hnd (fun b => N b ∨ b = D) H' H2 v v' d → v' ≠ .ref D ∧ Hnd (fun b => N b ∨ b = D) H (upd H2 D (.lst (us ++ [v']))) v v' d := fun v' H2 v d hd e h => by
      have nv : v' ≠ V.ref D := by
        rcases h with ⟨_, rfl⟩ | ⟨ds, c, us', e1, rfl, e3, _⟩
        · exact nref hd
        · intro q
          cases q
          rw [hu] at e3; cases e3
      refine ⟨nv, Hnd.put ?_ nv⟩
      rcases h with h | ⟨ds, c, us', e1, e2, e3, e4, e5⟩
      · exact .inl h
      · exact .inr ⟨ds, c, us', e1, e2, s1m.free e3, e4, e5⟩
    have i2 : i < 2 := (List.getElem?_eq_some_iff.mp hi).1
    have fin : ∀ {v' : V} {H2 : Hp}, Same H' H2 → Same H1 (upd H2 D (.lst (us ++ [v']))) := fun e b o z => by
      rw [upd_ne (ne_of_none z hD)]; exact e _ _ (sm _ _ z)
    match i, i2, hi, us, hul with
    | 0, _, hi, [], _ =>
      cases hi
      refine hand_one h8 (Same.refl H') (up xN) fun v' H2 e hh => ?_
      obtain ⟨g, g'⟩ := go v' H2 _ _ xN e hh
      exact ⟨[], e _ _ hu, by decide +kernel, fin e, [v'], upd_same, rfl, fun v0 q => by cases q; exact ⟨g, g'⟩, by simp⟩
    | 1, _, hi, [w0], _ =>
      cases hi
      refine hand_one h8 (Same.refl H') (up xP) fun v' H2 e hh => ?_
      obtain ⟨g, g'⟩ := go v' H2 _ _ xP e hh
      obtain ⟨j, j'⟩ := h0 w0 rfl
      exact ⟨[w0], e _ _ hu, show 1 < sizeLine by decide +kernel, fin e, [w0, v'], upd_same, rfl, fun v0 q => by cases q; exact ⟨j, (j'.same e).put j⟩, fun v1 q => by cases q; exact ⟨g, g'⟩⟩
  · rintro H' ⟨sm, us, hu, hul, h0, h1⟩
    match us, hul with
    | [v0, v1], _ => exact k D v0 v1 H' (s1.trans sm) DH hu (h0 v0 rfl).1 (h1 v1 rfl).1 (h0 v0 rfl).2 (h1 v1 rfl).2
end L2.K01
/-! K01za -/
set_option Elab.async false
set_option linter.all false
set_option maxRecDepth 100000
set_option maxHeartbeats 4000000
namespace L2.K01
open PySem PySem.Spec PyProof.Rows L2.Wb
def tMid (t : TS) : TS := fun D σ H => ∃ M : L2.St → Hp → Prop, t { D with nx := M } σ H ∧ ∀ σ' H', M σ' H' → D.nx σ' H'
theorem ps_mid {X : Cx} {st : Stmt} {t : TS} (h : PS X st t) : PS X st (tMid t) := by
  refine ⟨fun pins s σ H D I ⟨M, h1, h2⟩ => ?_⟩
  refine thn (h.run pins s σ H { D with nx := M } I h1) fun f s1 q => ?_
  cases f with
  | next => obtain ⟨σ', H', I', q'⟩ := q; exact ⟨σ', H', I', h2 _ _ q'⟩
  | ret v => exact q
  | brk => exact q
  | cont => exact q
/-- an item handed: a list that is new since Hc, or what is no list -/
def HP (N : Addr → Prop) (Hc H : Hp) (v : V) (d : PyData) : Prop := (∃ ds c us, d = .list ds ∧ v = .ref c ∧ Hc c = none ∧ H c = some (.lst us) ∧ DxAll (cut N H) us ds) ∨ ((∀ ds, d ≠ .list ds) ∧ Dx (cut N H) v d)
theorem HP.same {N : Addr → Prop} {Hc H H' : Hp} {v : V} {d : PyData} (h : HP N Hc H v d) (e : Same H H') : HP N Hc H' v d := by
  rcases h with ⟨ds, c, us, h1, h2, h3, h4, h5⟩ | ⟨h1, h2⟩
  · exact .inl ⟨ds, c, us, h1, h2, h3, e _ _ h4, h5.same (sameCut e)⟩
  · exact .inr ⟨h1, h2.same (sameCut e)⟩
theorem HP.kept {N M : Addr → Prop} {Hc H H' : Hp} {v : V} {d : PyData} (h : HP N Hc H v d) (m : ∀ b, M b → N b) (n : ∀ c, v = .ref c → Hc c = none → ¬ M c) (e : Kept M H H') : HP N Hc H' v d := by
  rcases h with ⟨ds, c, us, h1, h2, h3, h4, h5⟩ | ⟨h1, h2⟩
  · exact .inl ⟨ds, c, us, h1, h2, h3, e _ _ (n c h2 h3) h4, h5.same (keptMono m e).cut⟩
  · exact .inr ⟨h1, h2.same (keptMono m e).cut⟩
theorem HP.dx {N : Addr → Prop} {Hc H : Hp} {v : V} {d : PyData} (h : HP N Hc H v d) : Dx H v d := by
  rcases h with ⟨ds, c, us, rfl, rfl, h3, h4, h5⟩ | ⟨h1, h2⟩
  · exact .lst h4 (h5.same cut_same)
  · exact h2.same cut_same
theorem hp_of {N : Addr → Prop} {Hc H : Hp} {v v' : V} {d : PyData} (h : Hnd N Hc H v v' d) (x : Dx (cut N H) v d) : HP N Hc H v' d := by
  rcases h with ⟨h1, rfl⟩ | ⟨ds, c, us, h1, h2, h3, h4, h5⟩
  · exact .inr ⟨h1, x⟩
  · exact .inl ⟨ds, c, us, h1, h2, h3, h4, h5⟩
theorem seq_handed {K : PySem.W.Frag} {N : Addr → Prop} {H : Hp} {σ : L2.St} {r : Addr} {vN vP vH vS : V} {dN dP : PyData} {u : TS} {E : Ends} (h4 : σ[4]? = some (some (.ref r))) (hl8 : 8 < σ.length) (hr : H r = some (.lst [vN, vP, vH, vS])) (xN : Dx (cut N H) vN dN) (xP : Dx (cut N H) vP dP)
    (k : ∀ D v0 v1 H', Same H H' → H D = none → H' D = some (.lst [v0, v1]) → v0 ≠ .ref D → v1 ≠ .ref D → Hnd (fun b => N b ∨ b = D) H H' vN v0 dN → Hnd (fun b => N b ∨ b = D) H H' vP v1 dP → u E (σ.set 5 (some (.ref D))) H') :
    tSeq (tAsg (tLc (iList K (tSl (rSlL K) (tVar 4) tNoPart (tPart (tC (.int 2))))) (gName 8) tYes (rIsl K) [8]) (gName 5)) u E σ H := by
  show tLc (iList K (tSl (rSlL K) (tVar 4) tNoPart (tPart (tC (.int 2))))) (gName 8) tYes (rIsl K) [8] σ H (fun v H1 => gName 5 v σ H1 (u E))
  exact handed_run (Q := fun v H1 => gName 5 v σ H1 (u E)) h4 hl8 hr xN xP k
/-- tuple(x) of a list -/
def rTupG : List V → Hp → VK → Prop := fun xs H Q => ∃ (G : Hp) (x : V) (ds : List PyData), xs = [x] ∧ Same G H ∧ Dx G x (.list ds) ∧ ∀ t vs, H t = none → DxAll G vs ds → Q (.ref t) (upd H t (.tup vs))
theorem call_tupG {X : Cx} : CallR X (.type "tuple") rTupG := by
  intro pins s σ H xs us Q I r ⟨G, x, ds, ex, sm, h, k⟩
  subst ex
  refine call_tuple_of pins s σ H _ us Q I r ?_
  cases h with
  | lst h1 h2 => exact ⟨_, _, rfl, .inl ⟨SqL.of (sm _ _ h1), fun l hl => k l _ hl h2⟩⟩
def isFix : HO → Prop
  | .tup _ => True
  | .ins _ _ _ => True
  | _ => False
theorem strs_any {H H' : Hp} : ∀ {ds : List PyData} {vs : List V}, (∀ x ∈ ds, ∃ n, x = PyData.str n) → DxAll H vs ds → DxAll H' vs ds
  | [], _, _, .nil => .nil
  | d :: ds, _, all, .cons y z => by
    obtain ⟨n, rfl⟩ := all _ (List.mem_cons_self)
    cases y
    exact .cons (.str _) (strs_any (fun x hx => all x (List.mem_cons_of_mem _ hx)) z)
theorem prs_any {H H' : Hp} (e : ∀ b o, isFix o → H b = some o → H' b = some o) : ∀ {ds : List PyData} {vs : List V}, (∀ x ∈ ds, ∃ n s, x = PyData.tuple [.str n, .int s]) → DxAll H vs ds → DxAll H' vs ds
  | [], _, _, .nil => .nil
  | d :: ds, _, all, .cons y z => by
    obtain ⟨n, s, rfl⟩ := all _ (List.mem_cons_self)
    refine .cons ?_ (prs_any e (fun x hx => all x (List.mem_cons_of_mem _ hx)) z)
    cases y with
    | tup c d =>
      match d with
      | .cons d1 (.cons d2 .nil) =>
        cases d1; cases d2
        exact .tup (e _ _ trivial c) (.cons (.str _) (.cons (.int _) .nil))
theorem YardAt.fix {CY : Addr} {H H' : Hp} {p : Addr} {ts bs : List PyData} {m l : Int} (h : YardAt CY H p ts bs m l) (v : YardV ts bs m l) (e : ∀ b o, isFix o → H b = some o → H' b = some o) : YardAt CY H' p ts bs m l := by
  obtain ⟨dx, ta, tb, h1, h2, h3⟩ := h
  refine ⟨dx, ta, tb, e _ _ trivial h1, ?_, ?_⟩
  · cases h2 with
    | tup a b => exact .tup (e _ _ trivial a) (strs_any (fun x hx => let ⟨n, e, _⟩ := v.thing hx; ⟨n, e⟩) b)
  · cases h3 with
    | tup a b => exact .tup (e _ _ trivial a) (prs_any e (fun x hx => let ⟨n, s, e, _⟩ := v.beam hx; ⟨n, s, e⟩) b)
theorem yardD_seq {a b b' c d : PyData} (e : seqOf b' = seqOf b) : yardD a b' c d = yardD a b c d := by unfold yardD beamsD fewD; rw [e]
def YV (CY : Addr) (Hc H : Hp) (yv : V) (dN dP dH dS : PyData) : Prop := (yv = .non ∧ yardD dN dP dH dS = false) ∨ ∃ (yp : Addr) (ts bs : List PyData) (m l : Int), yv = .ref yp ∧ Hc yp = none ∧ YardAt CY H yp ts bs m l ∧ YardV ts bs m l ∧ fewN bs.length l = true ∧ yardD dN dP dH dS = true ∧ seqOf dN = some ts ∧ seqOf dP = some bs ∧ dH = .int m ∧ dS = .int l
theorem yv_of {CY p : Addr} {Hc H : Hp} {dN dP e1 dH dS : PyData} (h : yardD dN dP dH dS = true) (es : seqOf e1 = seqOf dP) (hp : Hc p = none) (ya : YardAt CY H p (seqD dN) (seqD e1) (intOf dH) (intOf dS)) : YV CY Hc H (.ref p) dN dP dH dS := by
  have h' := h
  unfold yardD at h'
  simp only [Bool.and_eq_true] at h'
  obtain ⟨h1, h2, h3, h4, h5⟩ := h'
  obtain ⟨m, rfl, _⟩ := isNumD_int h3
  obtain ⟨l, rfl, _⟩ := isNumD_int h4
  obtain ⟨ts, et, _⟩ := thingsD_seq h1
  obtain ⟨bs, eb, _⟩ := beamsD_seq h2
  have yv := yardV_of h et eb
  unfold seqD at ya
  rw [es, et, eb] at ya
  exact .inr ⟨p, ts, bs, m, l, rfl, hp, ya, yv.1, yv.2, h, et, eb, rfl, rfl⟩
theorem YV.same {CY : Addr} {Hc H H' : Hp} {yv : V} {dN dP dH dS : PyData} (h : YV CY Hc H yv dN dP dH dS) (e : ∀ b o, isFix o → H b = some o → H' b = some o) : YV CY Hc H' yv dN dP dH dS := by
  rcases h with h | ⟨yp, ts, bs, m, l, h1, h2, h3, h4, h5⟩
  · exact .inl h
  · exact .inr ⟨yp, ts, bs, m, l, h1, h2, h3.fix h4 e, h4, h5⟩
/-- an item that is walked: a list of T, or none -/
def PV (K : PySem.W.Frag) (T : Addr → Prop) (n : Nat) (H : Hp) (v : V) : Prop := (∃ c us, v = .ref c ∧ T c ∧ H c = some (.lst us) ∧ us.length ≤ 1000 + n) ∨ ∃ d, (∀ ds, d ≠ PyData.list ds) ∧ ∀ H', Kept T H H' → TyX K H' v (.type (tyName d))
theorem PV.step {K : PySem.W.Frag} {T : Addr → Prop} {n : Nat} {H : Hp} {v x : V} {c : Addr} {us : List V} (h : PV K T n H v) (t : T c) (hc : H c = some (.lst us)) (hl : us.length ≤ 1000 + n) : PV K T (n + 1) (upd H c (.lst (us ++ [x]))) v := by
  have kk : Kept T H (upd H c (.lst (us ++ [x]))) := Kept.upd t
  rcases h with ⟨c', us', h1, h2, h3, h4⟩ | ⟨d, h1, h2⟩
  · by_cases e : c' = c
    · subst e
      exact .inl ⟨c', _, h1, h2, upd_same, by rw [List.length_append]; exact Nat.succ_le_succ hl⟩
    · exact .inl ⟨c', us', h1, h2, by rw [upd_ne e]; exact h3, by omega⟩
  · exact .inr ⟨d, h1, fun H' k => h2 H' (kk.trans k)⟩
theorem PV.more {K : PySem.W.Frag} {T : Addr → Prop} {n : Nat} {H : Hp} {v : V} (h : PV K T n H v) : PV K T (n + 1) H v := by
  rcases h with ⟨c', us', h1, h2, h3, h4⟩ | h
  · exact .inl ⟨c', us', h1, h2, h3, by omega⟩
  · exact .inr h
theorem pv_of {K : PySem.W.Frag} {N T : Addr → Prop} {Hc H : Hp} {v : V} {d : PyData} (h : HP N Hc H v d) (t1 : ∀ b, T b → ∃ us, H b = some (.lst us)) (t2 : ∀ b us, H b = some (.lst us) → v = .ref b → Hc b = none → T b) (hl : ∀ ds, d = .list ds → ds.length ≤ 1000) : PV K T 0 H v := by
  rcases h with ⟨ds, c, us, e1, e2, e3, e4, e5⟩ | ⟨h1, h2⟩
  · exact .inl ⟨c, us, e2, t2 c us e4 e2 e3, e4, by rw [e5.len]; exact hl ds e1⟩
  · refine .inr ⟨d, h1, fun H' k => ?_⟩
    cases h2 with
    | non => exact .base .non
    | bl b => exact .base (.bl b)
    | int i => exact .base (.int i)
    | str y => exact .base (.str y)
    | lst a _ => exact (h1 _ rfl).elim
    | tup a _ =>
      have a' := (cut_in a).2
      exact .base (.tup (k _ _ (fun z => by obtain ⟨us, e⟩ := t1 _ z; rw [a'] at e; cases e) a'))
    | dct a _ =>
      have a' := (cut_in a).2
      exact .base (.dK (k _ _ (fun z => by obtain ⟨us, e⟩ := t1 _ z; rw [a'] at e; cases e) a'))
/-- where both ways meet again -/
def Mid3 (CY : Addr) (N3' N : Addr → Prop) (σf : V → L2.St) (Lf : Hp → Prop) (D : Addr) (v0 w1 : V) (dN dP e1 dH dS : PyData) (Hc : Hp) : L2.St → Hp → Prop := fun σ' H' => ∃ yv, σ' = σf yv ∧ Lf H' ∧ H' D = some (.lst [v0, w1]) ∧ Kept N3' Hc H' ∧ HP N Hc H' v0 dN ∧ HP N Hc H' w1 e1 ∧ YV CY Hc H' yv dN dP dH dS
theorem Mid3.same {CY : Addr} {N3' N : Addr → Prop} {σf : V → L2.St} {Lf : Hp → Prop} {D : Addr} {v0 w1 yv : V} {dN dP e1 dH dS : PyData} {Hc H H' : Hp} (hl : Lf H') (gD : H D = some (.lst [v0, w1])) (k : Kept N3' Hc H) (p0 : HP N Hc H v0 dN) (p1 : HP N Hc H w1 e1) (y : YV CY Hc H yv dN dP dH dS) (e : Same H H') :
    Mid3 CY N3' N σf Lf D v0 w1 dN dP e1 dH dS Hc (σf yv) H' := ⟨yv, rfl, hl, e _ _ gD, k.trans (Same.kept e), p0.same e, p1.same e, y.same fun b o _ z => e _ _ z⟩
theorem tm_seq {w k : Nat} {d e : PyData} {ds : List PyData} (h : Tm w k d) (e1 : d = .list ds) (e2 : e = .tuple ds) : Tm w k e := by subst e1; subst e2; exact tm_tl.mp h
end L2.K01
/-! K01x -/
set_option Elab.async false
set_option linter.all false
set_option maxRecDepth 100000
set_option maxHeartbeats 4000000
namespace L2.K01
open PySem PySem.Spec PyProof.Rows L2.Wb
abbrev sLaw : Stmt := top 32
abbrev nLaw : List Str := ["script", "state", "made", "turn", "row", "handed", "kept", "yard", "part", "other", "more", "same", "words", "bare", "word"]
def rOr (r1 r2 : R2) : R2 := fun x y H Q => r1 x y H Q ∨ r2 x y H Q
theorem op_or {X : Cx} {f : Value → Value → Sem Value} {r1 r2 : R2} (h1 : OpR X f r1) (h2 : OpR X f r2) : OpR X f (rOr r1 r2) := fun pins s σ H x y v u Q I rx ry h => h.elim (h1 pins s σ H x y v u Q I rx ry) (h2 pins s σ H x y v u Q I rx ry)
structure TxtW (K : PySem.W.Frag) (mg : Str → Option Value) (CY fI fE fB fN fP fSp fMd fDu fTe fNe fNa fLi fMo fLe : Addr) : Prop where
  nlst : mg "list" = none
  ntup : mg "tuple" = none
  nrange : mg "range" = none
  nrepr : mg "repr" = none
  nisi : mg "isinstance" = none
  hsys : (K.lookup sysModules).isSome = true
  cY : Cls K CY
  mkY : Mk K CY fI
  gY : mg "Yard" = some (.ref CY)
  oE : OEq K CY fE
  gB : mg "_law_begun" = some (.ref fB)
  kB : PySem.W.keepIn K (.ref fB) = true
  gN : mg "_law_next" = some (.ref fN)
  kN : PySem.W.keepIn K (.ref fN) = true
  gP : mg "_law_parts" = some (.ref fP)
  kP : PySem.W.keepIn K (.ref fP) = true
  gSp : mg "_law_spoilt" = some (.ref fSp)
  kSp : PySem.W.keepIn K (.ref fSp) = true
  gMd : mg "_law_made" = some (.ref fMd)
  kMd : PySem.W.keepIn K (.ref fMd) = true
  gDu : mg "_law_due" = some (.ref fDu)
  kDu : PySem.W.keepIn K (.ref fDu) = true
  gTe : mg "_law_tells" = some (.ref fTe)
  kTe : PySem.W.keepIn K (.ref fTe) = true
  gNe : mg "_law_near_unlike" = some (.ref fNe)
  kNe : PySem.W.keepIn K (.ref fNe) = true
  gNa : mg "is_name" = some (.ref fNa)
  kNa : PySem.W.keepIn K (.ref fNa) = true
  gLi : mg "_law_is_name" = some (.ref fLi)
  kLi : PySem.W.keepIn K (.ref fLi) = true
  mMo : Meth K CY "most" fMo
  mLe : Meth K CY "lean" fLe
  gMost : ∃ t, mg "MOST" = some (.int 20 t)
  gLean : ∃ t, mg "LEAN" = some (.int 3 t)
section
variable {P : Program} {w : World} {K : PySem.W.Frag} {mg : Str → Option Value} {base : Heap} {CY CN fI fE fB fN fP fSp fMd fDu fTe fNe fNa fLi fMo fLe : Addr} {dI dE dB dN_ dP_ dSp dMd dDu dTe dNe dNa dLi dMo dLe : FuncData}
theorem scLaw : FnScope nLaw ["script"] (defScope sLaw) := ⟨rfl, rfl, rfl, by decide +kernel, rfl, by decide +kernel, by decide +kernel⟩
def spLaw (K : PySem.W.Frag) : Sp := fun vs H Q _ => ∃ (a : Addr) (ns : List Int), vs = [.ref a] ∧ SqL K H a (ns.map V.int) ∧ ns.length ≤ 63 ∧ ∀ H', Q (.bl true) H'
abbrev ps5 : List Str := ["self", "things", "beams", "most", "lean"]
def lawWords : List PyData := [.str "a", .str "", .str "abcdefgh", .str "abcdefghi", .str "A", .str "a ", .none, .int 5, .list [.str "a"], .tuple [.str "a"], .bool true, .dict [], .str "a1", .str "-", .str "z"]
theorem lawWords_ok : ∀ d ∈ lawWords, oksB d = true := by decide +kernel
theorem lawWords_shw : tmB 20 1 (.list (lawWords.map fun d => .bool (isNameD d))) = true := by decide +kernel
theorem bls_dx {H : Hp} : ∀ bs : List Bool, DxAll H (bs.map V.bl) (bs.map PyData.bool)
  | [] => .nil
  | b :: r => .cons (.bl b) (bls_dx r)
/-- an entry of made: a yard and its row -/
def Ent (CY : Addr) (H : Hp) (v : V) : Prop := ∃ (q yp rp : Addr) (dN dP : PyData) (ts bs : List PyData) (m l : Int), v = .ref q ∧ H q = some (.tup [.ref yp, .ref rp]) ∧ YardAt CY H yp ts bs m l ∧ YardV ts bs m l ∧ fewN bs.length l = true ∧ Dx H (.ref rp) (.list [dN, dP, .int m, .int l]) ∧ seqOf dN = some ts ∧ seqOf dP = some bs
theorem Ent.same {CY : Addr} {H H' : Hp} {v : V} (h : Ent CY H v) (e : Same H H') : Ent CY H' v := by
  obtain ⟨q, yp, rp, dN, dP, ts, bs, m, l, h1, h2, h3, h4, h5, h6, h7, h8⟩ := h
  exact ⟨q, yp, rp, dN, dP, ts, bs, m, l, h1, e _ _ h2, h3.same e, h4, h5, h6.same e, h7, h8⟩
theorem ok_law {f : Addr} {fd : FuncData} {gC gW gI : List Value → List Value → List Value} {dfl : List Value} (F : Fun K "law" "law" sLaw f fd) (T : TxtW K mg CY fI fE fB fN fP fSp fMd fDu fTe fNe fNa fLi fMo fLe)
    (GB : FnOk P w K mg base CX0 1 fB dB ["script"] (spBegun K)) (bB : Binds K dB ["script"] []) (GN : FnOk P w K mg base CX0 1 fN dN_ ["state", "size"] spNext) (bN : Binds K dN_ ["state", "size"] []) (GP : FnOk P w K mg base CX0 4 fP dP_ ["state"] spParts) (bP : Binds K dP_ ["state"] [])
    (GSp : FnOk P w K mg base CX0 3 fSp dSp ["state", "row"] spSpoilt) (bSp : Binds K dSp ["state", "row"] []) (GMd : FnOk P w K mg base CX0 6 fMd dMd ["row", "way"] (spMade K CY)) (bMd : Binds K dMd ["row", "way"] []) (GDu : FnOk P w K mg base CX0 3 fDu dDu ["row"] (spDue K)) (bDu : Binds K dDu ["row"] [])
    (GTe : WG P w K mg base CX0 5 fTe dTe ["state", "yard", "row"] (spTells CY)) (bTe : Binds K dTe ["state", "yard", "row"] []) (GNe : FnOk P w K mg base CX0 6 fNe dNe ["state", "yard", "row"] (spNear CY)) (bNe : Binds K dNe ["state", "yard", "row"] [])
    (GE : FnOk P w K mg base CX0 1 fE dE ["self", "other"] (spEq CY)) (bE : Binds K dE ["self", "other"] []) (GI : FnOk P w K mg base (L2.CX P w) 4 fI dI ps5 (spInit CY CN)) (bI : Binds K dI ps5 dfl) (hdfl : Vals [.int 20, .int 3] dfl) (bC : KBn K dI ps5 3 ["most"] gC (fun vs zs => vs ++ (zs ++ [.int 3])))
    (GNa : FnOk P w K mg base CX0 1 fNa dNa ["thing"] spName) (bNa : KBn K dNa ["thing"] 0 ["thing"] gW (fun vs zs => vs ++ zs)) (GLi : FnOk P w K mg base CX0 1 fLi dLi ["item"] spLIs) (bLi : Binds K dLi ["item"] []) (GMo : FnOk P w K mg base CX0 1 fMo dMo ["self"] (spMost CY)) (bMo : Binds K dMo ["self"] []) (GLe : FnOk P w K mg base CX0 1 fLe dLe ["self"] (spLean CY)) (bLe : Binds K dLe ["self"] []) :
    WG P w K mg base CX0 7 f fd ["script"] (spLaw K) := by
  refine fun_wg F scLaw (fun vs H Q E h => ?_) (fun cdv A outer s H vs Q E hgu hr h => ?_)
  · obtain ⟨_, _, rfl, _⟩ := h; rfl
  · obtain ⟨a, ns, rfl, hs, hl, k⟩ := h
    have hg2 : (A.deeper (envOfC "law" (defScope sLaw) s.heap.objs.size f cdv)).guards = some [] := hgu
    have hr1 : Room 1 _ := hr.mono (by decide)
    have hr3 : Room 3 _ := hr.mono (by decide)
    have hr4 : Room 4 _ := hr.mono (by decide)
    have hr5 : Room 5 _ := hr.mono (by decide)
    obtain ⟨tM, gM⟩ := T.gMost
    obtain ⟨tL, gLn⟩ := T.gLean
    refine ⟨_, PSs.nox (pss_cons (ps_set (i := 1) scLaw.nd rfl (Or.inl rfl) (pe_call GB hr1 rfl T.gB T.kB bB .nil pass0 (pa_cons (pv 0) pa_nil)))
      (pss_cons (ps_set (i := 2) scLaw.nd rfl (Or.inl rfl) (pe_lst pa_nil))
      (pss_cons (ps_for PassesOwn.never rfl (pi_range1 (by rfl) T.nrange (pa_cons pe_int pa_nil)) (pg_name (i := 3) scLaw.nd rfl (Or.inl rfl))
        (pss_cons (ps_set (i := 4) scLaw.nd rfl (Or.inl rfl) (pe_call GP hr4 rfl T.gP T.kP bP .nil pass0 (pa_cons (pv 1) pa_nil)))
        (pss_cons (ps_mid (ps_if (pt_cmpR op_eq (pe_call GN hr1 rfl T.gN T.kN bN .nil pass0 (pa_cons (pv 1) (pa_cons pe_int pa_nil))) pe_int (nomark _)) (pss_one (ps_set (i := 4) scLaw.nd rfl (Or.inl rfl) (pe_call GSp hr3 rfl T.gSp T.kSp bSp .nil pass0 (pa_cons (pv 1) (pa_cons (pv 4) pa_nil))))) pss_nil))
        (pss_cons (ps_setLc (i := 5) (own := [("part", 8)]) (g := gName 8) (tt := tYes) rfl scLaw.nd rfl rfl (by rfl) (pi_list (pe_slice sl_list (pv 4) po_none (po_some pe_int))) (blkOk_by (own := [("part", 8)]) (N := nLaw) (sc := defScope sLaw) (by decide +kernel))
          (fun _ _ _ _ _ => pg_name (i := 8) scLaw.nd rfl (Or.inl rfl)) (fun _ _ _ _ _ => pts_nil)
          (fun _ _ _ _ _ => pe_ifExp (pt_val (pe_callB (r := rIsi K) call_isi (by rfl) T.nisi (by decide +kernel) (pa_cons (pv 8) (pa_cons (pe_bltn (v := .ty "list") (by rfl) T.nlst (by decide +kernel) rfl) pa_nil)))) (pe_callTy call_lstG (by rfl) T.nlst (by decide +kernel) (pa_cons (pv 8) pa_nil)) (pv 8)))
        (pss_cons (ps_mid (ps_if (PW.pt (pw_and (pt_val (pe_callB call_isi (by rfl) T.nisi (by decide +kernel) (pa_cons (pe_ix ix_list (pv 4) pe_int (fun _ _ => rfl)) (pa_cons (pe_bltn (v := .ty "list") (by rfl) T.nlst (by decide +kernel) rfl) pa_nil)))) (pw_and1 (pt_cmpR op_eq (pe_call GN hr1 rfl T.gN T.kN bN .nil pass0 (pa_cons (pv 1) (pa_cons pe_int pa_nil))) pe_int (nomark _)))))
          (pss_one (ps_asg (pe_callTy call_tupG (by rfl) T.ntup (by decide +kernel) (pa_cons (pe_ix ix_list (pv 4) pe_int (fun _ _ => rfl)) pa_nil)) (pg_sub (pv 5) pe_int set_list (fun _ => rfl)))) pss_nil))
        (pss_cons (ps_set (i := 6) scLaw.nd rfl (Or.inl rfl) (pe_callB (call_reprD hg2 hr T.hsys) (by rfl) T.nrepr (by decide +kernel) (pa_cons (pv 5) pa_nil)))
        (pss_cons (ps_mid (ps_set (i := 7) scLaw.nd rfl (Or.inl rfl) (pe_call GMd hr rfl T.gMd T.kMd bMd .nil pass0 (pa_cons (pe_op op_cat (pv 5) (pe_slice sl_list (pv 4) (po_some pe_int) po_none)) (pa_cons (pe_call GN hr1 rfl T.gN T.kN bN .nil pass0 (pa_cons (pv 1) (pa_cons pe_int pa_nil))) pa_nil)))))
        (pss_cons (ps_mid (ps_if (PW.pt (pw_or (pt_cmpR (op_or op_eq (op_eqO T.oE GE hr1 bE pass0)) (pv 7) pe_str (nomark _)) (pw_or (pt_cmpR op_ne (pe_cmpR op_notN (pv 7) pe_non (nomark _)) (pe_call GDu hr3 rfl T.gDu T.kDu bDu .nil pass0 (pa_cons (pv 4) pa_nil)) (nomark _))
            (pw_or1 (pt_cmpR op_ne (pe_callB (call_reprD hg2 hr T.hsys) (by rfl) T.nrepr (by decide +kernel) (pa_cons (pv 5) pa_nil)) (pv 6) (nomark _)))))) (pss_one (ps_ret pe_bl)) pss_nil))
        (pss_cons (ps_for PassesOwn.never rfl (pi_list (pv 5)) (pg_name (i := 8) scLaw.nd rfl (Or.inl rfl)) (pss_one (ps_if (pt_val (pe_callB call_isi (by rfl) T.nisi (by decide +kernel) (pa_cons (pv 8) (pa_cons (pe_bltn (v := .ty "list") (by rfl) T.nlst (by decide +kernel) rfl) pa_nil))))
            (pss_one (ps_expr (pe_bm PySem.F.plainAttrs_list PySem.F.slot_list_append PySem.F.type_list_append mt_append (pv 8) (pa_cons pe_str pa_nil)))) pss_nil)))
        (pss_one (ps_if (pt_cmpR op_notN (pv 7) pe_non (nomark _)) (pss_one (ps_expr (pe_bm PySem.F.plainAttrs_list PySem.F.slot_list_append PySem.F.type_list_append mt_append (pv 2) (pa_cons (pe_tup (pa_cons (pv 7) (pa_cons (pv 4) pa_nil))) pa_nil)))) pss_nil)))))))))))
      (pss_cons (ps_for PassesOwn.never rfl (pi_list (pv 2)) (pg_tup rfl (pgs_cons (pg_name (i := 7) scLaw.nd rfl (Or.inl rfl)) (pgs_cons (pg_name (i := 4) scLaw.nd rfl (Or.inl rfl)) pgs_nil)))
        (pss_cons (ps_if (PW.pt (pw_or (pt_not (pt_val (pe_callWG GTe hg2 hr5 rfl T.gTe T.kTe bTe pass0 (pa_cons (pv 1) (pa_cons (pv 7) (pa_cons (pv 4) pa_nil)))))) (pw_or1 (pt_not (pt_val (pe_call GNe hr rfl T.gNe T.kNe bNe .nil pass0 (pa_cons (pv 1) (pa_cons (pv 7) (pa_cons (pv 4) pa_nil))))))))) (pss_one (ps_ret pe_bl)) pss_nil)
        (pss_one (ps_for PassesOwn.never rfl (pi_list (pv 2)) (pg_tup rfl (pgs_cons (pg_name (i := 9) scLaw.nd rfl (Or.inl rfl)) (pgs_cons (pg_name (i := 10) scLaw.nd rfl (Or.inl rfl)) pgs_nil)))
          (pss_cons (ps_set (i := 11) scLaw.nd rfl (Or.inl rfl) (pe_and (pe_cmpR (op_eqD hr.units) (pe_callTy call_lstD (by rfl) T.nlst (by decide +kernel) (pa_cons (pe_ix ix_list (pv 4) pe_int (fun _ _ => rfl)) pa_nil)) (pe_callTy call_lstD (by rfl) T.nlst (by decide +kernel) (pa_cons (pe_ix ix_list (pv 10) pe_int (fun _ _ => rfl)) pa_nil)) (nomark _))
            (pe_and (pe_cmpR (op_eqD hr.units) (pe_callTy call_lstD (by rfl) T.nlst (by decide +kernel) (pa_cons (pe_ix ix_list (pv 4) pe_int (fun _ _ => rfl)) pa_nil)) (pe_callTy call_lstD (by rfl) T.nlst (by decide +kernel) (pa_cons (pe_ix ix_list (pv 10) pe_int (fun _ _ => rfl)) pa_nil)) (nomark _))
            (pe_one (pe_cmpR (op_eqD hr.units) (pe_slice sl_list (pv 4) (po_some pe_int) po_none) (pe_slice sl_list (pv 10) (po_some pe_int) po_none) (nomark _))))))
          (pss_one (ps_if (PW.pt (pw_or (pt_cmpR op_ne (pe_cmpR (op_eqO T.oE GE hr1 bE pass0) (pv 7) (pv 9) (nomark _)) (pv 11) (nomark _)) (pw_or1 (pt_cmpR (op_eqO T.oE GE hr1 bE pass0) (pv 7) (pv 4) (nomark _))))) (pss_one (ps_ret pe_bl)) pss_nil)))))))
      (pss_cons (ps_set (i := 12) scLaw.nd rfl (Or.inl rfl) (pe_lst (pa_cons pe_str (pa_cons pe_str (pa_cons pe_str (pa_cons pe_str (pa_cons pe_str (pa_cons pe_str (pa_cons pe_non (pa_cons pe_int (pa_cons (pe_lst (pa_cons pe_str pa_nil)) (pa_cons (pe_tup (pa_cons pe_str pa_nil)) (pa_cons pe_bl (pa_cons pe_dnewK (pa_cons pe_str (pa_cons pe_str (pa_cons pe_str pa_nil)))))))))))))))))
      (pss_cons (ps_if (pt_cmpR op_ne (pe_callB (call_reprD hg2 hr T.hsys) (by rfl) T.nrepr (by decide +kernel) (pa_cons (pe_lc (te := Wb.tCallK 1 spName (fun vs zs => vs ++ zs) E0 (tCons (tVar 14) tNil)) (own := [("word", 14)]) (g := gName 14) (tt := tYes) rfl scLaw.nd (pi_list (pv 12)) (blkOk_by (own := [("word", 14)]) (N := nLaw) (sc := defScope sLaw) (by decide +kernel))
            (fun _ _ _ _ _ => pg_name (i := 14) scLaw.nd rfl (Or.inl rfl)) (fun _ _ _ _ _ => pts_nil) (fun _ _ _ _ _ => by exact Wb.pe_callK (ks := ["thing"]) (E := E0) GNa hr1 rfl T.gNa T.kNa bNa pass0 (pk_cons (pv 14) pk_nil))) pa_nil))
          (pe_callB (call_reprD hg2 hr T.hsys) (by rfl) T.nrepr (by decide +kernel) (pa_cons (pe_lc (own := [("word", 14)]) (g := gName 14) (tt := tYes) rfl scLaw.nd (pi_list (pv 12)) (blkOk_by (own := [("word", 14)]) (N := nLaw) (sc := defScope sLaw) (by decide +kernel))
            (fun _ _ _ _ _ => pg_name (i := 14) scLaw.nd rfl (Or.inl rfl)) (fun _ _ _ _ _ => pts_nil) (fun _ _ _ _ _ => pe_call GLi hr1 rfl T.gLi T.kLi bLi .nil pass0 (pa_cons (pv 14) pa_nil))) pa_nil)) (nomark _)) (pss_one (ps_ret pe_bl)) pss_nil)
      (pss_cons (ps_set (i := 13) scLaw.nd rfl (Or.inl rfl) (pe_make (E := E0) T.mkY GI hr5 rfl T.gY bI hdfl (passes_call (W := fun _ _ _ _ => False) takes0 (fun _ _ _ _ h => h)) (pa_cons (pe_lst (pa_cons pe_str pa_nil)) (pa_cons (pe_lst (pa_cons (pe_tup (pa_cons pe_str (pa_cons pe_int pa_nil))) pa_nil)) pa_nil))))
      (pss_one (ps_ret (pe_and (pe_cmpR (op_eqD hr.units) (pe_tup (pa_cons (pe_glob (v := .int 20) (by rfl) gM ⟨_, rfl⟩) (pa_cons (pe_glob (v := .int 3) (by rfl) gLn ⟨_, rfl⟩) (pa_cons (pe_meth0 (pv 13) T.cY T.mMo GMo hr1 bMo .nil pass0) (pa_cons (pe_meth0 (pv 13) T.cY T.mLe GLe hr1 bLe .nil pass0) pa_nil))))) (pe_tup (pa_cons pe_int (pa_cons pe_int (pa_cons pe_int (pa_cons pe_int pa_nil))))) (nomark _))
        (pe_one (pe_cmpR (op_eqO T.oE GE hr1 bE pass0) (pv 13) (pe_makeK (ks := ["most"]) (E := E0) T.mkY GI hr5 rfl T.gY bC (passes_call (W := fun _ _ _ _ => False) takes0 (fun _ _ _ _ h => h)) (pa_cons (pe_tup (pa_cons pe_str pa_nil)) (pa_cons (pe_tup (pa_cons (pe_tup (pa_cons pe_str (pa_cons pe_int pa_nil))) pa_nil)) pa_nil)) (pk_cons pe_int pk_nil)) (nomark _))))))))))))), ?_⟩
    refine ⟨_, rfl, a, ns, rfl, hs, hl, fun st gl cl H1 s1 hst hgl hcl L0 => ?_⟩
    refine ⟨show 0 ≤ sizeLine by decide +kernel, fun mk hmk => ?_⟩
    have nmk : ¬ N3 st gl cl mk := L0.new hmk
    refine ⟨6, rfl, by decide, by decide, for_range (fun i σ H' => (∃ z3 z4 z5 z6 z7 z8, σ = [some (.ref a), some (.ref st), some (.ref mk), z3, z4, z5, z6, z7, z8, none, none, none, none, none, none]) ∧ LS st gl cl (200 * i) H' ∧ ∃ vs, H' mk = some (.lst vs) ∧ vs.length ≤ i ∧ ∀ v ∈ vs, Ent CY (cut (fun b => N3 st gl cl b ∨ b = mk) H') v)
      ⟨⟨none, none, none, none, none, none, rfl⟩, L0.same (Same.new hmk), [], upd_same, Nat.le_refl _, by simp⟩ ?_ ?_⟩
    · rintro i σ H0 hi ⟨⟨z3, z4, z5, z6, z7, z8, rfl⟩, L, vs, hv, hvl, hent⟩
      have D0 : Dom st gl cl H0 (fun b => N3 st gl cl b ∨ b = mk) := ⟨fun b hb => hb.elim (fun z => L.has z) (fun z => ⟨.lst vs, by rw [z]; exact hv⟩), fun b hb => .inl hb⟩
      refine ⟨_, rfl, st, gl, cl, 200 * i, rfl, L, by omega, fun r Ha ns prs hh sl hr_ La ka dxr good => ?_⟩
      have dr := dxr _ D0
      have nN3 : ∀ b, N3 st gl cl b → (N3 st gl cl b ∨ b = mk) := fun b hb => .inl hb
      refine ⟨fun σ' H' => ∃ (r2 : Addr) (dN dP dH dS : PyData), σ' = [some (.ref a), some (.ref st), some (.ref mk), some (.int (0 + i)), some (.ref r2), z5, z6, z7, z8, none, none, none, none, none, none] ∧ LS st gl cl (200 * i + 90) H' ∧ Kept (N3 st gl cl) H0 H' ∧
        Dx (cut (fun b => N3 st gl cl b ∨ b = mk) H') (.ref r2) (.list [dN, dP, dH, dS]) ∧ RowOk dN dP ∧ Tm 200 3 dH ∧ Tm 200 3 dS, ?_, ?_⟩
      · refine ⟨_, rfl, st, gl, cl, _, 2, rfl, La, by omega, by decide, by decide, fun w0 Hb _ _ Lb kb => ⟨rfl, _, rfl, ?_⟩⟩
        have kab := ka.trans kb
        have cab := (keptMono nN3 kb).cut
        have ti : ∀ z : Int, 0 ≤ z → z ≤ 100 → Tm 200 3 (.int z) := fun z h0 h1 => (tm_int (by omega) (by omega)).mono (by decide) (by decide)
        cases q : decide (V.int w0 = V.int 0)
        · refine iteF ?_
          exact ⟨r, _, _, _, _, rfl, Lb.mono (by omega), kab, dr.same cab, good.row, ti _ good.h0.1 good.h0.2, ti _ good.s0.1 (by have := good.s0.2; omega)⟩
        · refine iteT ?_
          refine ⟨_, rfl, _, rfl, st, gl, cl, r, _, _, ns, prs, hh, sl, rfl, Lb, by omega, D0.kept kab Lb, dr.same cab, good, fun r' Hc dN dP dH dS Lc kc dxc ro th ts => ?_⟩
          exact ⟨r', dN, dP, dH, dS, rfl, Lc.mono (by omega), kab.trans kc, dxc, ro, th, ts⟩
      rintro σ' Hc ⟨r2, dN, dP, dH, dS, rfl, Lc, kc, dxc, ro, th, ts⟩
      have Dc := D0.kept kc Lc
      cases dxc with
      | lst a1 a2 =>
        match a2 with
        | .cons (v := vN) xN (.cons (v := vP) xP (.cons (v := vH) xH (.cons (v := vS) xS .nil))) =>
          have a1' := (cut_in a1).2
          have nr2 := (cut_in a1).1
          refine seq_handed (N := fun b => N3 st gl cl b ∨ b = mk) rfl (by show 8 < 15; decide) a1' xN xP fun D v0 v1 H1 s1 hD gD n0 n1 hn0 hn1 => ?_
          have nD : ¬ (N3 st gl cl D ∨ D = mk) := Dc.new hD
          have up : ∀ {v : V} {d : PyData}, Dx (cut (fun b => N3 st gl cl b ∨ b = mk) Hc) v d → Dx (cut (fun b => (N3 st gl cl b ∨ b = mk) ∨ b = D) H1) v d := fun hd => hd.same fun b o z => by
            obtain ⟨z1, z2⟩ := cut_in z
            rw [cut_of fun q => q.elim z1 (ne_of_none z2 hD)]
            exact s1 _ _ z2
          have p0 := hp_of hn0 (up xN)
          have p1 := hp_of hn1 (up xP)
          have L1 := Lc.same s1
          have mD : ∀ b, N3 st gl cl b → ((N3 st gl cl b ∨ b = mk) ∨ b = D) := fun b hb => .inl (.inl hb)
          refine ⟨fun σ' H' => ∃ (w1 : V) (e1 : PyData), σ' = [some (.ref a), some (.ref st), some (.ref mk), some (.int (0 + i)), some (.ref r2), some (.ref D), z6, z7, z8, none, none, none, none, none, none] ∧ LS st gl cl (200 * i + 95) H' ∧ H' D = some (.lst [v0, w1]) ∧ Kept (N3 st gl cl) Hc H' ∧
            HP (fun b => (N3 st gl cl b ∨ b = mk) ∨ b = D) Hc H' v0 dN ∧ HP (fun b => (N3 st gl cl b ∨ b = mk) ∨ b = D) Hc H' w1 e1 ∧ seqOf e1 = seqOf dP ∧ Tm 4000 6 e1 ∧ w1 ≠ .ref D, ?_, ?_⟩
          · refine ⟨_, rfl, r2, _, 1, vP, rfl, rfl, SqL.of (s1 _ _ a1'), rfl, vP, _, _, _, _, rfl, .ty "list", (up xP |>.same cut_same).tyX, kit_ty (k_list dP), _, rfl, ?_⟩
            have no : ∀ H2, LS st gl cl (200 * i + 95) H2 → Kept (N3 st gl cl) H1 H2 → ∃ (w1 : V) (e1 : PyData), [some (.ref a), some (.ref st), some (.ref mk), some (.int (0 + i)), some (.ref r2), some (.ref D), z6, z7, z8, none, none, none, none, none, none] = [some (.ref a), some (.ref st), some (.ref mk), some (.int (0 + i)), some (.ref r2), some (.ref D), z6, z7, z8, none, none, none, none, none, none] ∧ LS st gl cl (200 * i + 95) H2 ∧ H2 D = some (.lst [v0, w1]) ∧ Kept (N3 st gl cl) Hc H2 ∧
              HP (fun b => (N3 st gl cl b ∨ b = mk) ∨ b = D) Hc H2 v0 dN ∧ HP (fun b => (N3 st gl cl b ∨ b = mk) ∨ b = D) Hc H2 w1 e1 ∧ seqOf e1 = seqOf dP ∧ Tm 4000 6 e1 ∧ w1 ≠ .ref D := fun H2 L2 k12 =>
              ⟨v1, dP, rfl, L2, k12 _ _ (fun z => nD (.inl z)) gD, (Same.kept s1).trans k12, p0.kept mD (fun c _ hc z => Dc.new hc (.inl z)) k12, p1.kept mD (fun c _ hc z => Dc.new hc (.inl z)) k12, rfl, ro.tP, n1⟩
            cases dP with
            | list ds =>
              refine iteT ?_
              refine ⟨_, rfl, st, gl, cl, _, 2, rfl, L1, by omega, by decide, by decide, fun w1 H2 _ _ L2 k2 => ⟨rfl, _, rfl, ?_⟩⟩
              cases q : decide (V.int w1 = V.int 0)
              · refine iteF ?_
                exact no _ (L2.mono (by omega)) k2
              · refine iteT ?_
                have s2c : Same (cut (fun b => (N3 st gl cl b ∨ b = mk) ∨ b = D) H1) (cut (fun b => (N3 st gl cl b ∨ b = mk) ∨ b = D) H2) := (keptMono mD k2).cut
                have nn : ∀ {b}, ¬ (N3 st gl cl b ∨ b = mk) → ¬ N3 st gl cl b := fun h z => h (.inl z)
                have a2' : H2 r2 = some (.lst [vN, vP, vH, vS]) := k2 _ _ (nn nr2) (s1 _ _ a1')
                have gD2 : H2 D = some (.lst [v0, v1]) := k2 _ _ (nn nD) gD
                refine ⟨_, rfl, r2, _, 1, vP, rfl, rfl, SqL.of a2', rfl, _, vP, ds, rfl, cut_same, (up xP).same s2c, fun t vs ht hvs => ?_⟩
                have s3 : Same H2 (upd H2 t (.tup vs)) := Same.new ht
                have tD : D ≠ t := ne_of_none gD2 ht
                refine ⟨_, rfl, D, _, 1, 1, rfl, rfl, s3 _ _ gD2, rfl, ?_⟩
                have kk : Kept (fun b => b = D) (upd H2 t (.tup vs)) (upd (upd H2 t (.tup vs)) D (.lst [v0, .ref t])) := Kept.upd rfl
                have L3 : LS st gl cl (200 * i + 95) (upd (upd H2 t (.tup vs)) D (.lst [v0, .ref t])) := ((L2.same s3).upd (nn nD)).mono (by omega)
                have k3 : Kept (N3 st gl cl) Hc (upd (upd H2 t (.tup vs)) D (.lst [v0, .ref t])) := fun b o z1 z2 => kk _ _ (ne_of_none z2 hD) (s3 _ _ (k2 _ _ z1 (s1 _ _ z2)))
                have mD2 : ∀ b, b = D → ((N3 st gl cl b ∨ b = mk) ∨ b = D) := fun b hb => .inr hb
                have ntt : ¬ ((N3 st gl cl t ∨ t = mk) ∨ t = D) := fun z => by
                  rcases z with z | z
                  · exact ((Dc.kept (Same.kept s1) L1).kept k2 L2).new ht z
                  · exact tD z.symm
                refine ⟨.ref t, .tuple ds, rfl, L3, upd_same, k3, (((p0.kept mD (fun c _ hc z => Dc.new hc (.inl z)) k2).same s3).kept mD2 (fun c hc _ z => n0 (by rw [hc, z])) kk), .inr ⟨fun _ e => (by cases e), .tup (cutAt ntt (kk _ _ tD.symm upd_same)) ((hvs.same (sameCut s3)).same (keptMono mD2 kk).cut)⟩, rfl, tm_seq ro.tP rfl rfl, fun e => tD (by cases e; rfl)⟩
            | none => exact iteF (no _ (L1.mono (by omega)) (Kept.refl _ _))
            | bool _ => exact iteF (no _ (L1.mono (by omega)) (Kept.refl _ _))
            | int _ => exact iteF (no _ (L1.mono (by omega)) (Kept.refl _ _))
            | str _ => exact iteF (no _ (L1.mono (by omega)) (Kept.refl _ _))
            | tuple _ => exact iteF (no _ (L1.mono (by omega)) (Kept.refl _ _))
            | dict _ => exact iteF (no _ (L1.mono (by omega)) (Kept.refl _ _))
          rintro σ' H2 ⟨w1, e1, rfl, L2, gD2, k2, q0, q1, es, te, nw⟩
          have nn : ∀ {b}, ¬ (N3 st gl cl b ∨ b = mk) → ¬ N3 st gl cl b := fun h z => h (.inl z)
          have xD : ∀ {H : Hp}, H D = some (.lst [v0, w1]) → HP (fun b => (N3 st gl cl b ∨ b = mk) ∨ b = D) Hc H v0 dN → HP (fun b => (N3 st gl cl b ∨ b = mk) ∨ b = D) Hc H w1 e1 → Dx H (.ref D) (.list [dN, e1]) := fun g h0 h1 => .lst g (.cons h0.dx (.cons h1.dx .nil))
          have shw : Shw (.list [dN, e1]) := (tm_list (w := 4000) (k := 6) (n := 2) (fun x hx => by
            rcases List.mem_cons.mp hx with rfl | hx
            · exact ro.tN.mono (by decide) (by decide)
            · rw [List.mem_singleton.mp hx]; exact te) (Nat.le_refl _)).shw (by decide) (by decide)
          refine ⟨_, rfl, .ref D, _, rfl, xD gD2 q0 q1, shw, ?_⟩
          have a2' : H2 r2 = some (.lst [vN, vP, vH, vS]) := k2 _ _ (nn nr2) a1'
          refine ⟨Mid3 CY (N3 st gl cl) (fun b => (N3 st gl cl b ∨ b = mk) ∨ b = D) (fun yv => [some (.ref a), some (.ref st), some (.ref mk), some (.int (0 + i)), some (.ref r2), some (.ref D), some (.str (PyData.list [dN, e1]).shown), some yv, z8, none, none, none, none, none, none]) (LS st gl cl (200 * i + 110)) D v0 w1 dN dP e1 dH dS Hc, ?_, ?_⟩
          · refine ⟨_, rfl, _, rfl, 2, rfl, r2, _, rfl, SqL.of a2', fun sl hsl => ?_⟩
            have u1 : Same H2 (upd H2 sl (.lst [vH, vS])) := Same.new hsl
            refine ⟨D, sl, [v0, w1], [vH, vS], rfl, rfl, u1 _ _ gD2, upd_same, show 4 ≤ sizeLine by decide +kernel, fun c hc => ?_⟩
            have u2 : Same (upd H2 sl (.lst [vH, vS])) (upd (upd H2 sl (.lst [vH, vS])) c (.lst [v0, w1, vH, vS])) := Same.new hc
            have u12 := u1.trans u2
            have gc : upd (upd H2 sl (.lst [vH, vS])) c (.lst [v0, w1, vH, vS]) c = some (.lst [v0, w1, vH, vS]) := upd_same
            have hcH : ¬ N3 st gl cl c := (L2.same u1).new hc
            refine ⟨_, rfl, st, gl, cl, _, 2, rfl, L2.same u12, by omega, by decide, by decide, fun w2 H5 _ _ L5 k5 => ?_⟩
            have k25 : Kept (N3 st gl cl) H2 H5 := (Same.kept u12).trans k5
            have k5c := k2.trans k25
            have q05 := q0.kept mD (fun c _ hc z => Dc.new hc (.inl z)) k25
            have q15 := q1.kept mD (fun c _ hc z => Dc.new hc (.inl z)) k25
            have cc := (keptMono nN3 k5c : Kept (fun b => N3 st gl cl b ∨ b = mk) Hc H5).cut
            refine ⟨c, v0, w1, vH, vS, dN, e1, dH, dS, w2, rfl, SqL.of (k5 _ _ hcH gc), q05.dx, q15.dx, (xH.same cc).same cut_same, (xS.same cc).same cut_same, ro.qN, fun ds e => ro.bP ds (by rw [← es]; exact e), fun hy p H6 s6 hp ya => ?_, fun hn H6 s6 => ?_⟩
            · rw [yardD_seq es] at hy
              exact ⟨.ref p, rfl, (L5.same s6).mono (by omega), s6 _ _ (k25 _ _ (nn nD) gD2), k5c.trans (Same.kept s6), q05.same s6, q15.same s6, yv_of hy es (keptFree k5c (L5.new hp) hp) ya⟩
            · rw [yardD_seq es] at hn
              exact ⟨.non, rfl, (L5.same s6).mono (by omega), s6 _ _ (k25 _ _ (nn nD) gD2), k5c.trans (Same.kept s6), q05.same s6, q15.same s6, .inl ⟨rfl, hn⟩⟩
          rintro σ' H3 ⟨yv, rfl, L3, gD3, k3, q03, q13, yy⟩
          refine ⟨Mid3 CY (N3 st gl cl) (fun b => (N3 st gl cl b ∨ b = mk) ∨ b = D) (fun yv => [some (.ref a), some (.ref st), some (.ref mk), some (.int (0 + i)), some (.ref r2), some (.ref D), some (.str (PyData.list [dN, e1]).shown), some yv, z8, none, none, none, none, none, none]) (LS st gl cl (200 * i + 110)) D v0 w1 dN dP e1 dH dS Hc, ?_, ?_⟩
          · have a3' : H3 r2 = some (.lst [vN, vP, vH, vS]) := k3 _ _ (nn nr2) a1'
            have cc := (keptMono nN3 k3 : Kept (fun b => N3 st gl cl b ∨ b = mk) Hc H3).cut
            have go : ∀ H', Same H3 H' → Mid3 CY (N3 st gl cl) (fun b => (N3 st gl cl b ∨ b = mk) ∨ b = D) (fun yv => [some (.ref a), some (.ref st), some (.ref mk), some (.int (0 + i)), some (.ref r2), some (.ref D), some (.str (PyData.list [dN, e1]).shown), some yv, z8, none, none, none, none, none, none]) (LS st gl cl (200 * i + 110)) D v0 w1 dN dP e1 dH dS Hc [some (.ref a), some (.ref st), some (.ref mk), some (.int (0 + i)), some (.ref r2), some (.ref D), some (.str (PyData.list [dN, e1]).shown), some yv, z8, none, none, none, none, none, none] H' := fun H' e =>
              Mid3.same (σf := fun yv => [some (.ref a), some (.ref st), some (.ref mk), some (.int (0 + i)), some (.ref r2), some (.ref D), some (.str (PyData.list [dN, e1]).shown), some yv, z8, none, none, none, none, none, none]) (L3.same e) gD3 k3 q03 q13 yy e
            rcases id yy with ⟨rfl, hn⟩ | ⟨yp, ts', bs', m, l, rfl, hyp, ya, yV, fw, hy, eN, eP, rfl, rfl⟩
            · refine ⟨_, rfl, .inl ⟨rfl, _, rfl, ?_⟩⟩
              refine iteF ?_
              refine ⟨_, rfl, rfl, _, rfl, r2, vN, vP, vH, vS, dN, dP, dH, dS, rfl, SqL.of a3', (xN.same cc).same cut_same, (xP.same cc).same cut_same, (xH.same cc).same cut_same, (xS.same cc).same cut_same, ro.qN, ro.bP, fun H' s' => ⟨rfl, _, rfl, ?_⟩⟩
              rw [hn]
              refine iteF ?_
              refine ⟨_, rfl, .ref D, _, rfl, xD (s' _ _ gD3) (q03.same s') (q13.same s'), shw, _, rfl, rfl, _, rfl, ?_⟩
              rw [decide_eq_true rfl]
              refine iteF ?_
              exact go H' s'
            · obtain ⟨dx, ta, tb, hins, _⟩ := id ya
              refine ⟨_, rfl, .inr ⟨yp, dx, _, _, rfl, hins, .str _, yp, ts', bs', m, l, .str _, rfl, ya, yV, .inr (.inl ⟨_, rfl, _, rfl, _, rfl, ?_⟩)⟩⟩
              refine iteF ?_
              refine ⟨_, rfl, rfl, _, rfl, r2, vN, vP, vH, vS, dN, dP, _, _, rfl, SqL.of a3', (xN.same cc).same cut_same, (xP.same cc).same cut_same, (xH.same cc).same cut_same, (xS.same cc).same cut_same, ro.qN, ro.bP, fun H' s' => ⟨rfl, _, rfl, ?_⟩⟩
              rw [hy]
              refine iteF ?_
              refine ⟨_, rfl, .ref D, _, rfl, xD (s' _ _ gD3) (q03.same s') (q13.same s'), shw, _, rfl, rfl, _, rfl, ?_⟩
              rw [decide_eq_true rfl]
              refine iteF ?_
              exact go H' s'
          rintro σ' H4 ⟨yv, rfl, L4, gD4, k4, q04, q14, yy⟩
          have t1 : ∀ b, (∃ us, H4 b = some (.lst us) ∧ (v0 = .ref b ∨ w1 = .ref b) ∧ Hc b = none) → ∃ us, H4 b = some (.lst us) := fun b h => let ⟨us, e, _⟩ := h; ⟨us, e⟩
          have len0 : ∀ ds, dN = .list ds → ds.length ≤ 1000 := fun ds e => (ro.qN ds (by rw [e]; rfl)).1
          have len1 : ∀ ds, e1 = .list ds → ds.length ≤ 1000 := fun ds e => (ro.bP ds (by rw [← es, e]; rfl)).1
          have w0 := pv_of (K := K) q04 t1 (fun b us z e n => ⟨us, z, .inl e, n⟩) len0
          have w1' := pv_of (K := K) q14 t1 (fun b us z e n => ⟨us, z, .inr e, n⟩) len1
          refine ⟨_, rfl, D, rfl, ⟨_, SqL.of gD4⟩, for_list (K := K) (a := D) (xs := [v0, w1]) (fun j σ H' => (∃ z8, σ = [some (.ref a), some (.ref st), some (.ref mk), some (.int (0 + i)), some (.ref r2), some (.ref D), some (.str (PyData.list [dN, e1]).shown), some yv, z8, none, none, none, none, none, none]) ∧
              Kept (fun b => ∃ us, H4 b = some (.lst us) ∧ (v0 = .ref b ∨ w1 = .ref b) ∧ Hc b = none) H4 H' ∧ PV K (fun b => ∃ us, H4 b = some (.lst us) ∧ (v0 = .ref b ∨ w1 = .ref b) ∧ Hc b = none) j H' v0 ∧ PV K (fun b => ∃ us, H4 b = some (.lst us) ∧ (v0 = .ref b ∨ w1 = .ref b) ∧ Hc b = none) j H' w1)
              ⟨⟨_, rfl⟩, Kept.refl _ _, w0, w1'⟩ ?_ ?_ ?_⟩
          · rintro j σ H' _ ⟨_, kk, _⟩
            exact SqL.of (kk _ _ (fun ⟨us, _, h, _⟩ => h.elim n0 nw) gD4)
          · rintro j v σ H' hj ⟨⟨z8', rfl⟩, kk, pv0, pv1⟩
            have pv : PV K (fun b => ∃ us, H4 b = some (.lst us) ∧ (v0 = .ref b ∨ w1 = .ref b) ∧ Hc b = none) j H' v := by
              have := List.mem_of_getElem? hj
              rcases List.mem_cons.mp this with rfl | h
              · exact pv0
              · rw [List.mem_singleton.mp h]; exact pv1
            have j2 : j < 2 := (List.getElem?_eq_some_iff.mp hj).1
            rcases pv with ⟨c, us, rfl, tc, hc, hul⟩ | ⟨d, nl, ty⟩
            · refine ⟨_, rfl, .ref c, _, _, _, _, rfl, .ty "list", .base (.lst hc), kit_ty (k_list (.list [])), _, rfl, ?_⟩
              refine iteT ?_
              refine ⟨_, rfl, .inl ⟨rfl, _, SqL.of hc⟩, c, us, _, rfl, rfl, hc, Nat.lt_of_le_of_lt (show us.length ≤ 1002 by omega) (by decide +kernel), ?_⟩
              exact ⟨⟨_, rfl⟩, kk.trans (Kept.upd tc), pv0.step tc hc hul, pv1.step tc hc hul⟩
            · refine ⟨_, rfl, v, _, _, _, _, rfl, .ty "list", ty _ (Kept.refl _ _), kit_ty (k_list d), _, rfl, ?_⟩
              cases d with
              | list ds => exact (nl ds rfl).elim
              | _ => exact iteF ⟨⟨_, rfl⟩, kk, pv0.more, pv1.more⟩
          · rintro σ H5 ⟨⟨z8', rfl⟩, k45, _, _⟩
            have k5 : Kept (N3 st gl cl) Hc H5 := fun b o z1 z2 => k45 _ _ (fun ⟨_, _, _, h⟩ => by rw [h] at z2; cases z2) (k4 _ _ z1 z2)
            have k05 := kc.trans k5
            have L5 : LS st gl cl (200 * i + 110) H5 := by
              obtain ⟨⟨d, gs, cs, t, h1, h2, h3, h⟩, ne⟩ := L4
              have up : ∀ b o, N3 st gl cl b → H4 b = some o → H5 b = some o := fun b o hb e => k45 _ _ (fun ⟨_, _, _, h⟩ => by obtain ⟨o', e'⟩ := Lc.has hb; rw [h] at e'; cases e') e
              exact ⟨⟨d, gs, cs, t, up _ _ (.inl rfl) h1, up _ _ (.inr (.inl rfl)) h2, up _ _ (.inr (.inr rfl)) h3, h⟩, ne⟩
            have gmk : H5 mk = some (.lst vs) := k05 _ _ nmk hv
            have cc0 : Same (cut (fun b => N3 st gl cl b ∨ b = mk) H0) (cut (fun b => N3 st gl cl b ∨ b = mk) H5) := (keptMono nN3 k05).cut
            have fx : ∀ b o, isFix o → H4 b = some o → H5 b = some o := fun b o f e => k45 _ _ (fun ⟨us, z, _⟩ => by rw [z] at e; cases e; exact f) e
            rcases yy with ⟨rfl, hn⟩ | ⟨yp, ts', bs', m, l, rfl, hyp, ya, yV, fw, hy, eN, eP, rfl, rfl⟩
            · refine ⟨_, rfl, rfl, _, rfl, ?_⟩
              refine iteF ?_
              exact ⟨⟨_, _, _, _, _, _, rfl⟩, L5.mono (by omega), vs, gmk, by omega, fun v hv' => (hent v hv').same cc0⟩
            · refine ⟨_, rfl, rfl, _, rfl, ?_⟩
              refine iteT ?_
              refine ⟨_, rfl, .inl ⟨rfl, _, SqL.of gmk⟩, _, rfl, _, rfl, show 2 ≤ sizeLine by decide +kernel, fun q hq => ?_⟩
              have mq : mk ≠ q := ne_of_none gmk hq
              refine ⟨mk, vs, .ref q, rfl, rfl, by rw [upd_ne mq]; exact gmk, Nat.lt_of_le_of_lt (show vs.length ≤ 6 by omega) (by decide +kernel), ?_⟩
              have nq : ¬ N3 st gl cl q := L5.new hq
              have nyp : ¬ (N3 st gl cl yp ∨ yp = mk) := Dc.new hyp
              have tail : Same (cut (fun b => N3 st gl cl b ∨ b = mk) H5) (cut (fun b => N3 st gl cl b ∨ b = mk) (upd (upd H5 q (.tup [.ref yp, .ref r2])) mk (.lst (vs ++ [.ref q])))) :=
                (sameCut (Same.new hq)).trans (Kept.cut (Kept.upd (.inr rfl)))
              have cfix : ∀ b o, isFix o → H5 b = some o → cut (fun b => N3 st gl cl b ∨ b = mk) H5 b = some o := fun b o f e => cutAt (fun z => by
                rcases z with z | z
                · obtain ⟨⟨d, gs, cs, t, h1, h2, h3, h⟩, ne⟩ := L5
                  rcases z with z | z | z
                  · rw [z, h1] at e; cases e; exact f
                  · rw [z, h2] at e; cases e; exact f
                  · rw [z, h3] at e; cases e; exact f
                · rw [z, gmk] at e; cases e; exact f) e
              have row : Dx (cut (fun b => N3 st gl cl b ∨ b = mk) H5) (.ref r2) (.list [dN, dP, .int m, .int l]) := (Dx.lst a1 (.cons xN (.cons xP (.cons xH (.cons xS .nil))))).same ((keptMono nN3 k5).cut)
              refine ⟨⟨_, _, _, _, _, _, rfl⟩, ((L5.upd nq).upd nmk).mono (by omega), vs ++ [.ref q], upd_same, by rw [List.length_append]; exact Nat.succ_le_succ hvl, fun v hv' => ?_⟩
              rcases List.mem_append.mp hv' with z | z
              · exact ((hent v z).same cc0).same tail
              · rw [List.mem_singleton.mp z]
                exact ⟨q, yp, r2, dN, dP, ts', bs', m, l, rfl, cutAt (fun z => z.elim nq fun e => mq e.symm) (by rw [upd_ne mq.symm]; exact upd_same), (((ya.fix yV fx).fix yV cfix).same tail), yV, fw, row.same tail, eN, eP⟩
    · rintro σ H2 ⟨⟨z3, z4, z5, z6, z7, z8, rfl⟩, L2, vs, hv, hvl, hent⟩
      refine ⟨_, rfl, mk, rfl, ⟨vs, SqL.of hv⟩, for_list (K := K) (a := mk) (xs := vs) (fun i σ H' => (∃ z3 z4 z5 z6 z7 z8 z9 z10 z11, σ = [some (.ref a), some (.ref st), some (.ref mk), z3, z4, z5, z6, z7, z8, z9, z10, z11, none, none, none]) ∧ LS st gl cl (1200 + 10 * i) H' ∧ H' mk = some (.lst vs) ∧ Same (cut (fun b => N3 st gl cl b ∨ b = mk) H2) (cut (fun b => N3 st gl cl b ∨ b = mk) H'))
        ⟨⟨_, _, _, _, _, _, none, none, none, rfl⟩, L2, hv, Same.refl _⟩ (fun i σ H' _ h => SqL.of h.2.2.1) ?_ ?_⟩
      · rintro i v σ H3 hi ⟨⟨z3, z4, z5, z6, z7, z8, z9, z10, z11, rfl⟩, L3, hv3, sc3⟩
        have hi6 : i < 6 := by have := (List.getElem?_eq_some_iff.mp hi).1; omega
        have D3 : Dom st gl cl H3 (fun b => N3 st gl cl b ∨ b = mk) := ⟨fun b hb => hb.elim (fun z => L3.has z) (fun z => ⟨.lst vs, by rw [z]; exact hv3⟩), fun b hb => .inl hb⟩
        obtain ⟨q, yp, rp, dN, dP, ts, bs, m, l, rfl, hq, hy, yv, fw, hrow, eN, eP⟩ := (hent v (List.mem_of_getElem? hi)).same sc3
        refine ⟨q, _, rfl, SqT.of (cut_in hq).2, rfl, _, _, rfl, _, _, rfl, rfl, ?_⟩
        refine ⟨_, rfl, _, rfl, _, rfl, st, gl, cl, yp, rp, 1200 + 10 * i, _, dN, dP, ts, bs, m, l, rfl, L3, by omega, D3, hrow, eN, eP, hy, yv, fun H4 L4 k4 => ⟨_, rfl, ?_⟩⟩
        refine iteF ?_
        have c34 := (keptMono (fun b hb => Or.inl hb) k4 : Kept (fun b => N3 st gl cl b ∨ b = mk) H3 H4).cut
        have hv4 := k4 _ _ nmk hv3
        have D4 := D3.kept k4 L4
        refine ⟨_, rfl, _, rfl, _, rfl, st, gl, cl, yp, rp, 1200 + 10 * i + 1, _, dN, dP, ts, bs, m, l, rfl, L4, by omega, D4, hrow.same c34, eN, eP, hy.same c34, yv, fw, fun H5 L5 k5 => ⟨_, rfl, ?_⟩⟩
        refine iteF ?_
        have c45 := (keptMono (fun b hb => Or.inl hb) k5 : Kept (fun b => N3 st gl cl b ∨ b = mk) H4 H5).cut
        have hv5 := k5 _ _ nmk hv4
        have c35 := c34.trans c45
        have hy5 := (hy.same c35).same cut_same
        have hrow5 := (hrow.same c35).same cut_same
        refine ⟨_, rfl, mk, rfl, ⟨vs, SqL.of hv5⟩, for_list (K := K) (a := mk) (xs := vs) (fun j σ H' => (∃ z3 z5 z6 z8 z9 z10 z11, σ = [some (.ref a), some (.ref st), some (.ref mk), z3, some (.ref rp), z5, z6, some (.ref yp), z8, z9, z10, z11, none, none, none]) ∧ Same H5 H')
          ⟨⟨_, _, _, _, _, _, _, rfl⟩, Same.refl _⟩ (fun j σ H' _ h => SqL.of (h.2 _ _ hv5)) ?_ ?_⟩
        · rintro j v2 σ H6 hj ⟨⟨z3, z5, z6, z8, z9, z10, z11, rfl⟩, s56⟩
          obtain ⟨q2, yp2, rp2, dN2, dP2, ts2, bs2, m2, l2, rfl, hq2, hy2, yv2, fw2, hrow2, eN2, eP2⟩ := (((hent v2 (List.mem_of_getElem? hj)).same (sc3.trans c35)).same cut_same).same s56
          have hyA := hy5.same s56
          have hrA := hrow5.same s56
          refine ⟨q2, _, rfl, SqT.of hq2, rfl, _, _, rfl, _, _, rfl, rfl, ?_⟩
          cases hrA with
          | lst a1 a2 =>
            match a2 with
            | .cons (v := vN) xN (.cons (v := vP) xP (.cons xM (.cons xL .nil))) =>
              cases xM; cases xL
              cases hrow2 with
              | lst b1 b2 =>
                match b2 with
                | .cons (v := wN) yN (.cons (v := wP) yP (.cons yM (.cons yL .nil))) =>
                  cases yM; cases yL
                  have cT : ∀ {ts bs : List PyData} {m l : Int}, YardV ts bs m l → PySem.SeqAt.shaped (.list ts) = true := fun v => v.cts
                  have cB : ∀ {ts bs : List PyData} {m l : Int}, YardV ts bs m l → PySem.SeqAt.shaped (.list bs) = true := fun v => v.cbs
                  refine ⟨_, rfl, rp, _, 0, vN, rfl, rfl, SqL.of a1, rfl, vN, dN, ts, rfl, xN, eN, fun n1 us1 hn1 hu1 => ?_⟩
                  have k1 : Same H6 (upd H6 n1 (.lst us1)) := Same.new hn1
                  refine ⟨_, rfl, rp2, _, 0, wN, rfl, rfl, SqL.of (k1 _ _ b1), rfl, wN, dN2, ts2, rfl, yN.same k1, eN2, fun n2 us2 hn2 hu2 => ?_⟩
                  have k2 : Same (upd H6 n1 (.lst us1)) (upd (upd H6 n1 (.lst us1)) n2 (.lst us2)) := Same.new hn2
                  have k12 := k1.trans k2
                  have t1 : Dx (upd (upd H6 n1 (.lst us1)) n2 (.lst us2)) (.ref n1) (.list ts) := .lst (k2 _ _ upd_same) (hu1.same k12)
                  have t2 : Dx (upd (upd H6 n1 (.lst us1)) n2 (.lst us2)) (.ref n2) (.list ts2) := .lst upd_same (hu2.same k2)
                  generalize upd (upd H6 n1 (.lst us1)) n2 (.lst us2) = H7 at k12 t1 t2
                  refine ⟨.list ts, .list ts2, Dx.dp t1 (shaped_can (cT yv)), Dx.dp t2 (shaped_can (cT yv2)), cT yv, cT yv2, _, rfl, ?_⟩
                  have eqs : eqY ts bs m l ts2 bs2 m2 l2 = (PyData.eqv (.list ts) (.list ts2) && (PyData.eqv (.list bs) (.list bs2) && PyData.eqv (.list [.int m, .int l]) (.list [.int m2, .int l2]))) := by
                    show _ = (PyData.eqvAll ts ts2 && (PyData.eqvAll bs bs2 && ((m == m2) && ((l == l2) && true))))
                    rw [Bool.and_true]
                    rfl
                  cases q1 : PyData.eqv (.list ts) (.list ts2)
                  · rw [q1, Bool.false_and] at eqs
                    refine iteF ?_
                    have yA := hyA.same k12
                    have yB := hy2.same k12
                    obtain ⟨dA, _, _, pA, _⟩ := id yA
                    obtain ⟨dB_, _, _, pB, _⟩ := id yB
                    have a1' := k12 _ _ a1
                    refine ⟨_, rfl, _, rfl, yp, dA, _, _, rfl, pA, .ins pB, yp, ts, bs, m, l, .ref yp2, rfl, yA, yv, .inl ⟨yp2, ts2, bs2, m2, l2, rfl, yB, yv2, _, rfl, _, rfl, rfl, _, rfl, ?_⟩⟩
                    rw [eqs, decide_eq_true rfl]
                    refine iteF ?_
                    refine ⟨_, rfl, _, rfl, yp, dA, _, _, rfl, pA, .lst a1', yp, ts, bs, m, l, .ref rp, rfl, yA, yv, .inr (.inr ⟨rp, _, rfl, a1', _, rfl, _, rfl, ?_⟩)⟩
                    refine iteF ?_
                    exact ⟨⟨_, _, _, _, _, _, _, rfl⟩, s56.trans k12⟩
                  · rw [q1, Bool.true_and] at eqs
                    refine iteT ?_
                    refine ⟨_, rfl, rp, _, 1, vP, rfl, rfl, SqL.of (k12 _ _ a1), rfl, vP, dP, bs, rfl, xP.same k12, eP, fun n3 us3 hn3 hu3 => ?_⟩
                    have k3 : Same H7 (upd H7 n3 (.lst us3)) := Same.new hn3
                    refine ⟨_, rfl, rp2, _, 1, wP, rfl, rfl, SqL.of (k3 _ _ (k12 _ _ b1)), rfl, wP, dP2, bs2, rfl, (yP.same k12).same k3, eP2, fun n4 us4 hn4 hu4 => ?_⟩
                    have k4' : Same (upd H7 n3 (.lst us3)) (upd (upd H7 n3 (.lst us3)) n4 (.lst us4)) := Same.new hn4
                    have k34 := k3.trans k4'
                    have t3 : Dx (upd (upd H7 n3 (.lst us3)) n4 (.lst us4)) (.ref n3) (.list bs) := .lst (k4' _ _ upd_same) (hu3.same k34)
                    have t4 : Dx (upd (upd H7 n3 (.lst us3)) n4 (.lst us4)) (.ref n4) (.list bs2) := .lst upd_same (hu4.same k4')
                    have k14 := k12.trans k34
                    generalize upd (upd H7 n3 (.lst us3)) n4 (.lst us4) = H8 at k14 t3 t4
                    refine ⟨.list bs, .list bs2, Dx.dp t3 (shaped_can (cB yv)), Dx.dp t4 (shaped_can (cB yv2)), cB yv, cB yv2, _, rfl, ?_⟩
                    cases q2_ : PyData.eqv (.list bs) (.list bs2)
                    · rw [q2_, Bool.false_and] at eqs
                      refine iteF ?_
                      have yA := hyA.same k14
                      have yB := hy2.same k14
                      obtain ⟨dA, _, _, pA, _⟩ := id yA
                      obtain ⟨dB_, _, _, pB, _⟩ := id yB
                      have a1' := k14 _ _ a1
                      refine ⟨_, rfl, _, rfl, yp, dA, _, _, rfl, pA, .ins pB, yp, ts, bs, m, l, .ref yp2, rfl, yA, yv, .inl ⟨yp2, ts2, bs2, m2, l2, rfl, yB, yv2, _, rfl, _, rfl, rfl, _, rfl, ?_⟩⟩
                      rw [eqs, decide_eq_true rfl]
                      refine iteF ?_
                      refine ⟨_, rfl, _, rfl, yp, dA, _, _, rfl, pA, .lst a1', yp, ts, bs, m, l, .ref rp, rfl, yA, yv, .inr (.inr ⟨rp, _, rfl, a1', _, rfl, _, rfl, ?_⟩)⟩
                      refine iteF ?_
                      exact ⟨⟨_, _, _, _, _, _, _, rfl⟩, s56.trans k14⟩
                    · rw [q2_, Bool.true_and] at eqs
                      refine iteT ?_
                      refine ⟨_, rfl, 2, rfl, rp, _, rfl, SqL.of (k14 _ _ a1), fun n5 hn5 => ?_⟩
                      have k5' : Same H8 (upd H8 n5 (.lst (cutV [vN, vP, .int m, .int l] (some 2) none))) := Same.new hn5
                      refine ⟨_, rfl, 2, rfl, rp2, _, rfl, SqL.of (k5' _ _ (k14 _ _ b1)), fun n6 hn6 => ?_⟩
                      have k6 : Same (upd H8 n5 (.lst (cutV [vN, vP, .int m, .int l] (some 2) none))) (upd (upd H8 n5 (.lst (cutV [vN, vP, .int m, .int l] (some 2) none))) n6 (.lst (cutV [wN, wP, .int m2, .int l2] (some 2) none))) := Same.new hn6
                      have k16 := k14.trans (k5'.trans k6)
                      refine ⟨.list [.int m, .int l], .list [.int m2, .int l2], .lst (SqL.of (k6 _ _ upd_same)) (.cons (.int _) (.cons (.int _) .nil)), .lst (SqL.of upd_same) (.cons (.int _) (.cons (.int _) .nil)), ints_shaped [m, l], ints_shaped [m2, l2], ?_⟩
                      have yA := hyA.same k16
                      have yB := hy2.same k16
                      obtain ⟨dA, _, _, pA, _⟩ := id yA
                      obtain ⟨dB_, _, _, pB, _⟩ := id yB
                      have a1' := k16 _ _ a1
                      refine ⟨_, rfl, _, rfl, yp, dA, _, _, rfl, pA, .ins pB, yp, ts, bs, m, l, .ref yp2, rfl, yA, yv, .inl ⟨yp2, ts2, bs2, m2, l2, rfl, yB, yv2, _, rfl, _, rfl, rfl, _, rfl, ?_⟩⟩
                      rw [eqs, decide_eq_true rfl]
                      refine iteF ?_
                      refine ⟨_, rfl, _, rfl, yp, dA, _, _, rfl, pA, .lst a1', yp, ts, bs, m, l, .ref rp, rfl, yA, yv, .inr (.inr ⟨rp, _, rfl, a1', _, rfl, _, rfl, ?_⟩)⟩
                      refine iteF ?_
                      exact ⟨⟨_, _, _, _, _, _, _, rfl⟩, s56.trans k16⟩
        · rintro σ H6 ⟨⟨z3, z5, z6, z8, z9, z10, z11, rfl⟩, s56⟩
          exact ⟨⟨_, _, _, _, _, _, _, _, _, rfl⟩, (L5.same s56).mono (by omega), s56 _ _ hv5, (sc3.trans c35).trans (sameCut s56)⟩
      · rintro σ H3 ⟨⟨z3, z4, z5, z6, z7, z8, z9, z10, z11, rfl⟩, L3, hv3, sc3⟩
        have S0 : ∀ {H : Hp}, Std (fun _ => False) H := fun b h => h.elim
        refine seq_lst (N := fun _ => False) (rda_cons rd_str (rda_cons rd_str (rda_cons rd_str (rda_cons rd_str (rda_cons rd_str (rda_cons rd_str (rda_cons rd_non (rda_cons rd_int (rda_cons (rd_lst S0 (rda_cons rd_str rda_nil) (by decide)) (rda_cons (rd_tup S0 (rda_cons rd_str rda_nil) (by decide)) (rda_cons rd_bl (rda_cons (rd_dict0 S0) (rda_cons rd_str (rda_cons rd_str (rda_cons rd_str rda_nil))))))))))))))) (by decide) fun wl ws H4 s4 hwl hws => ?_
        have hws4 : DxAll (upd H4 wl (.lst ws)) ws lawWords := (hws.same cut_same).same (Same.new hwl)
        have w4 : upd H4 wl (.lst ws) wl = some (.lst ws) := upd_same
        generalize upd H4 wl (.lst ws) = G at hws4 w4
        have wlen : ws.length = lawWords.length := hws4.len
        have w15 : lawWords.length = 15 := rfl
        refine ⟨_, rfl, wl, rfl, ⟨ws, SqL.of w4⟩, fun D1 hD1 => lc_list (K := K) (a := wl) (xs := ws) (fun i H' => Same G H' ∧ H' D1 = some (.lst (((lawWords.take i).map isNameD).map V.bl))) ⟨Same.new hD1, upd_same⟩ (fun i H' _ h => h.1.seq (SqL.of w4)) ?_ ?_⟩
        · rintro i y H' hi ⟨sm, hl1⟩
          obtain ⟨d, hd, hy⟩ := hws4.get hi
          refine ⟨rfl, ?_⟩
          refine yes ?_
          refine ⟨_, rfl, rfl, y, d, rfl, hy.same sm, (oks_of (lawWords_ok d (List.mem_of_getElem? hd))).short, _, hl1, ?_, fun b o z => ?_, ?_⟩
          · rw [List.length_map, List.length_map, List.length_take]
            exact Nat.lt_of_le_of_lt (show min i lawWords.length ≤ 15 by omega) (by decide +kernel)
          · rw [upd_ne (ne_of_none z hD1)]; exact sm _ _ z
          · rw [upd_same, List.take_succ, hd]
            simp
        · rintro G1 ⟨sG1, hl1⟩
          rw [wlen, List.take_length] at hl1
          have e15 : (lawWords.map fun d => PyData.bool (isNameD d)) = (lawWords.map isNameD).map PyData.bool := by rw [List.map_map]; rfl
          have shb : Shw (.list ((lawWords.map isNameD).map PyData.bool)) := by
            rw [← e15]
            exact (tm_of lawWords_shw).shw (by decide) (by decide)
          refine ⟨.ref D1, _, rfl, .lst hl1 (bls_dx _), shb, ?_⟩
          have w41 := sG1 _ _ w4
          have hws1 := hws4.same sG1
          refine ⟨_, rfl, wl, rfl, ⟨ws, SqL.of w41⟩, fun D2 hD2 => lc_list (K := K) (a := wl) (xs := ws) (fun i H' => Same G1 H' ∧ H' D2 = some (.lst (((lawWords.take i).map isNameD).map V.bl))) ⟨Same.new hD2, upd_same⟩ (fun i H' _ h => h.1.seq (SqL.of w41)) ?_ ?_⟩
          · rintro i y H' hi ⟨sm, hl2⟩
            obtain ⟨d, hd, hy⟩ := hws1.get hi
            refine ⟨rfl, ?_⟩
            refine yes ?_
            refine ⟨_, rfl, y, d, rfl, hy.same sm, oks_of (lawWords_ok d (List.mem_of_getElem? hd)), fun H5 s5 => ⟨_, s5 _ _ hl2, ?_, fun b o z => ?_, ?_⟩⟩
            · rw [List.length_map, List.length_map, List.length_take]
              exact Nat.lt_of_le_of_lt (show min i lawWords.length ≤ 15 by omega) (by decide +kernel)
            · rw [upd_ne (ne_of_none z hD2)]; exact s5 _ _ (sm _ _ z)
            · rw [upd_same, List.take_succ, hd]
              simp
          · rintro G2 ⟨sG2, hl2⟩
            rw [wlen, List.take_length] at hl2
            refine ⟨.ref D2, _, rfl, .lst hl2 (bls_dx _), shb, rfl, _, rfl, ?_⟩
            rw [decide_eq_true rfl]
            refine iteF ?_
            -- the bare yard
            refine ⟨show 1 ≤ sizeLine by decide +kernel, fun b1 hb1 => ?_⟩
            refine ⟨show 2 ≤ sizeLine by decide +kernel, fun b2 hb2 => ?_⟩
            refine ⟨show 1 ≤ sizeLine by decide +kernel, fun b3 hb3 => ?_⟩
            have t1 : Same G2 (upd G2 b1 (.lst [.str "a"])) := Same.new hb1
            have t2 : Same (upd G2 b1 (.lst [.str "a"])) (upd (upd G2 b1 (.lst [.str "a"])) b2 (.tup [.str "b", .int 1])) := Same.new hb2
            have t3 : Same (upd (upd G2 b1 (.lst [.str "a"])) b2 (.tup [.str "b", .int 1])) (upd (upd (upd G2 b1 (.lst [.str "a"])) b2 (.tup [.str "b", .int 1])) b3 (.lst [.ref b2])) := Same.new hb3
            have x1 : Dx (upd (upd (upd G2 b1 (.lst [.str "a"])) b2 (.tup [.str "b", .int 1])) b3 (.lst [.ref b2])) (.ref b1) (.list [.str "a"]) := .lst (t3 _ _ (t2 _ _ upd_same)) (.cons (.str _) .nil)
            have x2 : Dx (upd (upd (upd G2 b1 (.lst [.str "a"])) b2 (.tup [.str "b", .int 1])) b3 (.lst [.ref b2])) (.ref b3) (.list [.tuple [.str "b", .int 1]]) := .lst upd_same (.cons (.tup (t3 _ _ upd_same) (.cons (.str _) (.cons (.int _) .nil))) .nil)
            generalize upd (upd (upd G2 b1 (.lst [.str "a"])) b2 (.tup [.str "b", .int 1])) b3 (.lst [.ref b2]) = G3 at x1 x2
            refine fun x dx hx hdx hne => ?_
            have sx : Same G3 (upd (upd G3 dx (.own x)) x (.ins CY dx [])) := fun b u z => by
              rw [upd_ne (ne_of_none z hx), upd_ne (ne_of_none z hdx)]
              exact z
            have yd : yardD (.list [.str "a"]) (.list [.tuple [.str "b", .int 1]]) (.int 20) (.int 3) = true := by decide +kernel
            have sh1 : ShortS (.list [.str "a"]) := fun ds e z hz => by
              cases e
              rw [List.mem_singleton.mp hz]
              show (Str.length "a") ≤ 1000
              decide +kernel
            have sh2 : ShortB (.list [.tuple [.str "b", .int 1]]) := fun ds e z hz => by
              cases e
              rw [List.mem_singleton.mp hz]
              show (Str.length "b") ≤ 1000
              decide +kernel
            refine ⟨x, dx, _, _, _, _, _, _, .int 20, .int 3, rfl, upd_same, x1.same sx, x2.same sx, .int _, .int _, sh1, sh2, fun _ G4 keep ya => ⟨rfl, ?_⟩, fun hf => by rw [yd] at hf; cases hf⟩
            have ya : YardAt CY G4 x [.str "a"] [.tuple [.str "b", .int 1]] 20 3 := ya
            obtain ⟨vb, _⟩ := yardV_of yd rfl rfl
            obtain ⟨dx2, ta, tb, hpx, hta, htb⟩ := id ya
            have no : ∀ {x : Str}, ¬ x = "_things" → ¬ x = "_beams" → ¬ x = "_most" → ¬ x = "_lean" → (yf ta tb 20 3).lookup x = none := fun a b c d => yf_no a b c d
            refine ⟨_, rfl, x, dx2, _, rfl, hpx, no (by decide +kernel) (by decide +kernel) (by decide +kernel) (by decide +kernel), x, _, _, 20, 3, rfl, ya, ?_⟩
            refine ⟨_, rfl, x, dx2, _, rfl, hpx, no (by decide +kernel) (by decide +kernel) (by decide +kernel) (by decide +kernel), x, _, _, 20, 3, rfl, ya, ?_⟩
            refine ⟨show 4 ≤ sizeLine by decide +kernel, fun e1 he1 => ?_⟩
            refine ⟨show 4 ≤ sizeLine by decide +kernel, fun e2 he2 => ?_⟩
            have u1 : Same G4 (upd G4 e1 (.tup [.int 20, .int 3, .int 20, .int 3])) := Same.new he1
            have u2 : Same (upd G4 e1 (.tup [.int 20, .int 3, .int 20, .int 3])) (upd (upd G4 e1 (.tup [.int 20, .int 3, .int 20, .int 3])) e2 (.tup [.int 20, .int 3, .int 20, .int 3])) := Same.new he2
            have o1 : upd (upd G4 e1 (.tup [.int 20, .int 3, .int 20, .int 3])) e2 (.tup [.int 20, .int 3, .int 20, .int 3]) e1 = some (.tup [.int 20, .int 3, .int 20, .int 3]) := u2 _ _ upd_same
            have o2 : upd (upd G4 e1 (.tup [.int 20, .int 3, .int 20, .int 3])) e2 (.tup [.int 20, .int 3, .int 20, .int 3]) e2 = some (.tup [.int 20, .int 3, .int 20, .int 3]) := upd_same
            have u12 := u1.trans u2
            generalize upd (upd G4 e1 (.tup [.int 20, .int 3, .int 20, .int 3])) e2 (.tup [.int 20, .int 3, .int 20, .int 3]) = G5 at o1 o2 u12
            refine ⟨.tuple [.int 20, .int 3, .int 20, .int 3], .tuple [.int 20, .int 3, .int 20, .int 3], .tup (SqT.of o1) (.cons (.int _) (.cons (.int _) (.cons (.int _) (.cons (.int _) .nil)))), .tup (SqT.of o2) (.cons (.int _) (.cons (.int _) (.cons (.int _) (.cons (.int _) .nil)))), by decide +kernel, by decide +kernel, _, rfl, ?_⟩
            rw [show PyData.eqv (.tuple [.int 20, .int 3, .int 20, .int 3]) (.tuple [.int 20, .int 3, .int 20, .int 3]) = true by decide +kernel]
            refine iteT ?_
            have ya5 := ya.same u12
            refine ⟨_, rfl, ?_⟩
            refine ⟨show 1 ≤ sizeLine by decide +kernel, fun f1 hf1 => ?_⟩
            refine ⟨show 2 ≤ sizeLine by decide +kernel, fun f2 hf2 => ?_⟩
            refine ⟨show 1 ≤ sizeLine by decide +kernel, fun f3 hf3 => ?_⟩
            have r1 : Same G5 (upd G5 f1 (.tup [.str "a"])) := Same.new hf1
            have r2 : Same (upd G5 f1 (.tup [.str "a"])) (upd (upd G5 f1 (.tup [.str "a"])) f2 (.tup [.str "b", .int 1])) := Same.new hf2
            have r3 : Same (upd (upd G5 f1 (.tup [.str "a"])) f2 (.tup [.str "b", .int 1])) (upd (upd (upd G5 f1 (.tup [.str "a"])) f2 (.tup [.str "b", .int 1])) f3 (.tup [.ref f2])) := Same.new hf3
            have x3 : Dx (upd (upd (upd G5 f1 (.tup [.str "a"])) f2 (.tup [.str "b", .int 1])) f3 (.tup [.ref f2])) (.ref f1) (.tuple [.str "a"]) := .tup (r3 _ _ (r2 _ _ upd_same)) (.cons (.str _) .nil)
            have x4 : Dx (upd (upd (upd G5 f1 (.tup [.str "a"])) f2 (.tup [.str "b", .int 1])) f3 (.tup [.ref f2])) (.ref f3) (.tuple [.tuple [.str "b", .int 1]]) := .tup upd_same (.cons (.tup (r3 _ _ upd_same) (.cons (.str _) (.cons (.int _) .nil))) .nil)
            have r13 := (r1.trans r2).trans r3
            generalize upd (upd (upd G5 f1 (.tup [.str "a"])) f2 (.tup [.str "b", .int 1])) f3 (.tup [.ref f2]) = G6 at x3 x4 r13
            refine ⟨rfl, rfl, fun y dy hy hdy hny => ?_⟩
            have sy : Same G6 (upd (upd G6 dy (.own y)) y (.ins CY dy [])) := fun b u z => by
              rw [upd_ne (ne_of_none z hy), upd_ne (ne_of_none z hdy)]
              exact z
            have yd2 : yardD (.tuple [.str "a"]) (.tuple [.tuple [.str "b", .int 1]]) (.int 20) (.int 3) = true := by decide +kernel
            have sh3 : ShortS (.tuple [.str "a"]) := fun ds e z hz => by
              cases e
              rw [List.mem_singleton.mp hz]
              show (Str.length "a") ≤ 1000
              decide +kernel
            have sh4 : ShortB (.tuple [.tuple [.str "b", .int 1]]) := fun ds e z hz => by
              cases e
              rw [List.mem_singleton.mp hz]
              show (Str.length "b") ≤ 1000
              decide +kernel
            refine ⟨y, dy, _, _, _, _, _, _, .int 20, .int 3, rfl, upd_same, x3.same sy, x4.same sy, .int _, .int _, sh3, sh4, fun _ G7 keep yb => ⟨rfl, ?_⟩, fun hf => by rw [yd2] at hf; cases hf⟩
            have yb : YardAt CY G7 y [.str "a"] [.tuple [.str "b", .int 1]] 20 3 := yb
            have s67 : Same G6 G7 := fun b u z => keep b u (ne_of_none z hy) (sy _ _ z)
            have ya7 := (ya5.same r13).same s67
            obtain ⟨dx7, _, _, hx7, _⟩ := id ya7
            obtain ⟨dy7, _, _, hy7, _⟩ := id yb
            refine ⟨x, dx7, _, _, rfl, hx7, .ins hy7, x, _, _, 20, 3, .ref y, rfl, ya7, vb, .inl ⟨y, _, _, 20, 3, rfl, yb, vb, _, rfl, ?_⟩⟩
            rw [show eqY [.str "a"] [.tuple [.str "b", .int 1]] 20 3 [.str "a"] [.tuple [.str "b", .int 1]] 20 3 = true by decide +kernel]
            exact k _
end
end L2.K01
/-! WbHead -/
set_option Elab.async false
set_option linter.all false
set_option maxRecDepth 100000
set_option maxHeartbeats 4000000
/-! The head by one run of the kernel, with facts of one's own (tests of the written part). -/
namespace L2.Wb
open PySem PySem.Spec PyProof.Rows L2 He
abbrev Fct := PySem.W.Frag → Bool
def asW (g : Addr → Option Obj) (roots : List Addr) : Nat → List Addr
  | 0 => roots
  | n + 1 => growD g (asW g roots n)
/-- a def with a closure: name, qualified name, parameters, body, scope, globals, the closure's names, builtins -/
abbrev FnC : Type := Option (Str × Str × Arguments × FuncBody × Scope × Addr × List Str × Addr)
def fnC (K : PySem.W.Frag) (p : Str × Option Str) : FnC := match K.lookup (fAd K p) with
  | some ⟨_, _, .func fd, _⟩ => some (fd.name, fd.qualname, fd.params, fd.body, fd.scope, fd.globals, fd.closure.map (·.1), fd.builtins)
  | _ => none
structure CloD where
  at_ : Str × Option Str
  name : Str
  qual : Str
  params : Arguments
  body : List Stmt
  scope : Scope
def CloD.val (d : CloD) : FnC := some (d.name, d.qual, d.params, .stmts d.body, d.scope, mainGlobals, ["__class__"], builtinsNs)
abbrev AlW : Type := Bool × List FnW × List FnC
def obsW (fa : List Fct) (fn : List DefD) (fc : List CloD) (K : PySem.W.Frag) : AlW := ((fa.all fun f => f K) && fn.all fun d => d.ok K, fn.map fun d => fnW K d.at_, fc.map fun d => fnC K d.at_)
def valW (fn : List DefD) (fc : List CloD) : AlW := (true, fn.map DefD.val, fc.map CloD.val)
def SaysW (fa : List Fct) (fn : List DefD) (fc : List CloD) (K : PySem.W.Frag) : Prop := obsW fa fn fc K = valW fn fc
def roots : List Addr := [mainGlobals, PySem.cStatics, sysModules]
def obsWG (n : Nat) (fa : List Fct) (fn : List DefD) (fc : List CloD) (g : Addr → Option Obj) : AlW := obsW fa fn fc (frG g (asW g roots n))
def hookW (n : Nat) (fa : List Fct) (fn : List DefD) (fc : List CloD) : PySem.W.Hook where
  α := AlW
  obs := fun s => obsWG n fa fn fc s.heap.get?
  val := fun _ => valW fn fc
  says := fun _ h => ∃ K : PySem.W.Frag, K.In h ∧ SaysW fa fn fc K
  of := fun _ _ e => ⟨_, frG_in, e⟩
  keeps := fun _ _ _ ⟨K, hK, c⟩ k => ⟨K, PySem.W.Frag.In.keeps hK k, c⟩
theorem obsWG_eq {n : Nat} {fa : List Fct} {fn : List DefD} {fc : List CloD} {g : Addr → Option Obj} {s : Shared} (h : ∀ a, g a = s.heap.get? a) : obsWG n fa fn fc g = (hookW n fa fn fc).obs s := by
  have e : g = s.heap.get? := funext h
  rw [e] <;> rfl
section
variable {fa : List Fct} {fn : List DefD} {fc : List CloD} {K : PySem.W.Frag}
theorem SaysW.fact (c : SaysW fa fn fc K) (i : Nat) {f : Fct} (h : fa[i]? = some f := by rfl) : f K = true := by
  have c1 := (ba (show ((fa.all fun f => f K) && fn.all fun d => d.ok K) = true from congrArg (fun z : AlW => z.1) c)).1
  exact List.all_eq_true.mp c1 f (List.mem_of_getElem? h)
theorem SaysW.def_ (c : SaysW fa fn fc K) (i : Nat) {d : DefD} (h : fn[i]? = some d := by rfl) : ∃ fd, FunD K d.name d.qual d.params d.body d.scope (d.dvs K) (d.kws K) (fAd K d.at_) fd := by
  have c2 := (ba (show ((fa.all fun f => f K) && fn.all fun d => d.ok K) = true from congrArg (fun z : AlW => z.1) c)).2
  have e : fn.map (fun d => fnW K d.at_) = fn.map DefD.val := congrArg (fun z : AlW => z.2.1) c
  have e2 : (fn.map fun d => fnW K d.at_)[i]? = (fn.map DefD.val)[i]? := by rw [e]
  rw [List.getElem?_map, List.getElem?_map, h] at e2
  exact DefD.funD (Option.some.inj e2) (List.all_eq_true.mp c2 d (List.mem_of_getElem? h))
theorem SaysW.clo (c : SaysW fa fn fc K) (i : Nat) {d : CloD} (h : fc[i]? = some d := by rfl) : fnC K d.at_ = d.val := by
  have e : fc.map (fun d => fnC K d.at_) = fc.map CloD.val := congrArg (fun z : AlW => z.2.2) c
  have e2 : (fc.map fun d => fnC K d.at_)[i]? = (fc.map CloD.val)[i]? := by rw [e]
  rw [List.getElem?_map, List.getElem?_map, h] at e2
  exact Option.some.inj e2
end
/-- a def without defaults of its own -/
theorem fun_of {K : PySem.W.Frag} {x qual : Str} {st : Stmt} {kws : List (Str × V)} {f : Addr} {fd : FuncData} (F : FunD K x qual (defArgs st) (defBody st) (defScope st) [] kws f fd) : Fun K x qual st f fd := by
  obtain ⟨oc, od, dV, kV, doc, pm, an, cdv, ct, osl, rfl, lk, hcd, hD, hK⟩ := F.ex
  rcases hD with ⟨_, rfl⟩ | ⟨e, _⟩
  · exact ⟨⟨oc, od, kV, doc, pm, an, cdv, ct, osl, rfl, lk, hcd⟩, F.kp⟩
  · exact absurd rfl e
/-! ### tests -/
def tGlo (x : Str) : Fct := fun K => (Fa.glo x).ok K
def tKeep (x : Str) : Fct := fun K => (Fa.keep x).ok K
def tFree (x : Str) : Fct := fun K => (Fa.free x).ok K
def tInt (x : Str) (i : Int) : Fct := fun K => (Fa.int x i).ok K
def tCls (x : Str) : Fct := fun K => (Fa.cls x).ok K
def tNoat (x f : Str) : Fct := fun K => (Fa.noat x f).ok K
def tMeth_ (x m : Str) : Fct := fun K => (Fa.meth x m).ok K
def tMkr (x : Str) : Fct := fun K => (Fa.mkr x).ok K
def tExc (x : Str) : Fct := fun K => (Fa.exc x).ok K
def tExm (x y : Str) (b : Bool) : Fct := fun K => (Fa.exm x y b).ok K
def tKit (x y : Str) (b : Bool) : Fct := fun K => decide (PySem.W.kitOne K (.ref (ga K x)) (.ref (ga K y)) = some b)
def tKitT (t : String) (y : Str) (b : Bool) : Fct := fun K => decide (PySem.W.kitOne K (.type t) (.ref (ga K y)) = some b)
def tSys : Fct := fun K => (K.lookup sysModules).isSome
/-- an own == -/
def tOEq (x : Str) : Fct := fun K => eqO (PySem.W.findIn K (.ref (ga K x)) "__eq__") (some (some (.ref (ma K (ga K x) "__eq__")))) && (PySem.W.isFn K (.ref (ma K (ga K x) "__eq__")) && (eqO (PySem.W.findIn K (.ref (ga K x)) "__ne__") (some (some (.builtin "object.__ne__"))) &&
  (decide (PySem.W.mroIn K (ga K x) (.type "object") = some true) && (PySem.W.notFirst K (ga K x) (.type "str") && PySem.W.notFirst K (ga K x) (.type "list")))))
theorem oeq_ok {K : PySem.W.Frag} {x : Str} (h : tOEq x K = true) : OEq K (ga K x) (ma K (ga K x) "__eq__") := by
  obtain ⟨h1, h⟩ := ba h
  obtain ⟨h2, h⟩ := ba h
  obtain ⟨h3, h⟩ := ba h
  obtain ⟨h4, h⟩ := ba h
  obtain ⟨h5, h6⟩ := ba h
  exact ⟨eqO_ok h1, h2, eqO_ok h3, of_decide_eq_true h4, h5, h6⟩
/-- an instance's __class__ -/
def tKlass (x : Str) : Fct := fun K => eqO (PySem.W.findIn K (.ref (ga K x)) "__class__") (some (some (.builtin "object.__class__"))) && (eqO (PySem.W.specialIn K (.builtin "object.__class__") "__get__") (some (some (.builtin "getset_descriptor.__get__"))) &&
  (decide (PySem.W.takesIn K (.builtin "object.__class__") = some true) && decide (PySem.W.mroIn K (ga K x) (.type "object") = some true)))
theorem klass_ok {K : PySem.W.Frag} {x : Str} (h : tKlass x K = true) : PySem.W.findIn K (.ref (ga K x)) "__class__" = some (some (.builtin "object.__class__")) ∧ PySem.W.specialIn K (.builtin "object.__class__") "__get__" = some (some (.builtin "getset_descriptor.__get__")) ∧
    PySem.W.takesIn K (.builtin "object.__class__") = some true ∧ PySem.W.mroIn K (ga K x) (.type "object") = some true := by
  obtain ⟨h1, h⟩ := ba h
  obtain ⟨h2, h⟩ := ba h
  obtain ⟨h3, h4⟩ := ba h
  exact ⟨eqO_ok h1, eqO_ok h2, of_decide_eq_true h3, of_decide_eq_true h4⟩
/-- an exception class, kept behind its suite -/
def tExD (x : Str) : Fct := fun K => (PySem.W.clsIn K (ga K x)).isSome && (eqO (PySem.W.findIn K (.ref (ga K x)) "__getattribute__") (some (some (.builtin "BaseException.__getattribute__"))) && (eqO (PySem.W.findIn K (.ref (ga K x)) "__getattr__") (some none) &&
  (decide (PySem.W.subIn K (.ref (ga K x)) (.type "BaseException") = some true) && (PySem.W.hasDictIn K (ga K x) && tKlass x K))))
theorem exd_ok {K : PySem.W.Frag} {x : Str} (h : tExD x K = true) : ExD K (ga K x) := by
  obtain ⟨h1, h⟩ := ba h
  obtain ⟨h2, h⟩ := ba h
  obtain ⟨h3, h⟩ := ba h
  obtain ⟨h4, h⟩ := ba h
  obtain ⟨h5, h6⟩ := ba h
  obtain ⟨a, b, c, d⟩ := klass_ok h6
  exact ⟨h1, eqO_ok h2, eqO_ok h3, of_decide_eq_true h4, h5, a, b, c, d⟩
/-! ### class X(Base): def __init__(self, f): super().__init__(text); self.f = f -/
def fIn (K : PySem.W.Frag) (x : Str) : Addr := ma K (ga K x) "__init__"
def ccIn (K : PySem.W.Frag) (x : Str) : Addr := match K.lookup (fIn K x) with
  | some ⟨_, _, .func fd, _⟩ => (match fd.closure with
    | [(_, a)] => a
    | _ => 0)
  | _ => 0
def cdIn (K : PySem.W.Frag) (x : Str) : Addr := match K.lookup (fIn K x) with
  | some ⟨_, _, .func fd, _⟩ => (match fd.code with
    | .ref a => a
    | _ => 0)
  | _ => 0
def bClsVE (K : PySem.W.Frag) (C : Addr) : Bool := match K.lookup C with
  | some ⟨.type "type", _, .cls cd, sl⟩ => (match cd.mro, sl.toList with
    | .ref C' :: bm, [_, _, _, _, some (.builtin n), _] => decide (C' = C) && (decide (n = "ValueError.__new__") && (!cd.hasDel && (cd.hasDict && PySem.HandSPX.refsVE bm)))
    | _, _ => false)
  | _ => false
theorem clsVE_ok {K : PySem.W.Frag} {C : Addr} (h : bClsVE K C = true) : ∃ nm q N bs bm sn sub ab col dd k0 k1 k2 k3 k5, K.lookup C = some (excClassObj nm q C N bs bm true sn sub ab col dd k0 k1 k2 k3 k5 "ValueError.__new__") ∧ PySem.HandSPX.refsVE bm = true := by
  unfold bClsVE at h
  split at h
  · rename_i dd cd sl ho
    split at h
    · rename_i C' bm k0 k1 k2 k3 n k5 hm hs
      obtain ⟨h1, h⟩ := ba h
      obtain ⟨h2, h⟩ := ba h
      obtain ⟨h3, h⟩ := ba h
      obtain ⟨h4, h5⟩ := ba h
      have e1 := of_decide_eq_true h1
      have e2 := of_decide_eq_true h2
      subst e1 e2
      obtain ⟨nm, bs, mro, ns, qn, hd, sn, sub, ab, col, del⟩ := cd
      dsimp only at hm h3 h4
      subst hm h4
      have h3' : del = false := by cases del <;> first | rfl | cases h3
      subst h3'
      have hsl : sl = #[k0, k1, k2, k3, some (.builtin "ValueError.__new__"), k5] := by
        obtain ⟨l⟩ := sl
        simp only at hs
        rw [hs]
      subst hsl
      exact ⟨nm, qn, ns, bs, bm, sn, sub, ab, col, dd, k0, k1, k2, k3, k5, ho, h5⟩
    · cases h
  · cases h
def bCell (K : PySem.W.Frag) (c C : Addr) : Bool := match K.lookup c with
  | some ⟨_, _, .cell (some (.ref D)), _⟩ => decide (D = C)
  | _ => false
theorem cell_ok {K : PySem.W.Frag} {c C : Addr} (h : bCell K c C = true) : ∃ (cl : Value) (cld : Option Addr) (csl : Array (Option Value)), K.lookup c = some ⟨cl, cld, .cell (some (.ref C)), csl⟩ := by
  unfold bCell at h
  split at h
  · rename_i cl cld D csl ho
    have e := of_decide_eq_true h
    subst e
    exact ⟨_, _, _, ho⟩
  · cases h
def bCode (K : PySem.W.Frag) (c : Addr) (file : Str) : Bool := match K.lookup c with
  | some ⟨_, _, .fields vs, _⟩ => (match (vs[2]? : Option Value) with
    | some (Value.str f _) => file == f
    | _ => false)
  | _ => false
theorem code_ok {K : PySem.W.Frag} {c : Addr} {fl : Str} (h : bCode K c fl = true) : ∃ (ccl : Value) (cdd : Option Addr) (vs : Array Value) (ccs : Array (Option Value)) (file : Str) (tf : Tok), K.lookup c = some ⟨ccl, cdd, .fields vs, ccs⟩ ∧ vs[2]? = some (.str file tf) ∧ (fl == file) = true := by
  unfold bCode at h
  split at h
  · rename_i ccl cdd vs ccs ho
    split at h
    · rename_i f t hv
      exact ⟨_, _, _, _, _, _, ho, hv, h⟩
    · cases h
  · cases h
def bFn (K : PySem.W.Frag) (f : Addr) (q : Str) : Bool := match K.lookup f with
  | some ⟨_, _, .func fd, _⟩ => (match fd.closure, fd.code, fd.defaults with
    | [(_, _)], .ref _, .none => PySem.W.codeIn K fd.code q
    | _, _, _ => false)
  | _ => false
def tSup (x f : Str) (file : Str) : Fct := fun K => bClsVE K (ga K x) && (eqO (PySem.W.findIn K (.ref (ga K x)) "__setattr__") (some (some (.builtin "object.__setattr__"))) && (eqO (PySem.W.findIn K (.ref (ga K x)) f) (some none) &&
  (eqO (PySem.W.findIn K (.ref (ga K x)) "__init__") (some (some (.ref (fIn K x)))) && (decide (PySem.W.typeIn K (.ref (fIn K x)) = some (.type "function")) && (PySem.W.keepIn K (.ref (ga K x)) && (decide (PySem.W.subIn K (.ref (ga K x)) (.type "BaseException") = some true) &&
  (decide (PySem.W.subIn K (.ref (ga K x)) (.type "ValueError") = some true) && (decide (PySem.W.mroIn K (ga K x) (.ref (ga K x)) = some true) && (decide (PySem.W.typeIn K (.ref (ga K x)) = some (.type "type")) &&
  (eqO (PySem.W.ks_superIn K (ga K x) (ga K x) "__init__") (some (some (.builtin "ValueError.__init__"))) && (eqO (PySem.W.nsIn K PySem.cStatics "thirdparty.any") (some none) && (bCell K (ccIn K x) (ga K x) && (bCode K (cdIn K x) file && bFn K (fIn K x) (x ++ ".__init__"))))))))))))))
theorem sup_ok {P : Program} {K : PySem.W.Frag} {mg : Str → Option Value} {x f : Str} {arg : Expr} {args : Arguments} {sc : Scope} {p0 p1 p2 p3 p4 p5 p6 p7 p8 : Pos} (c : tSup x f P.main.file K = true)
    (e : fnC K (x, some "__init__") = CloD.val ⟨(x, some "__init__"), "__init__", x ++ ".__init__", args, PySem.WbX.supB arg f p0 p1 p2 p3 p4 p5 p6 p7 p8, sc⟩) (noS : mg "super" = none) (hl : (p2.endLine == p3.line) = true)
    (hb : ∀ (kV doc pm : Value) (an : Option Addr) (cda cc : Addr) (ct u v : Value), PySem.bindArgs (PySem.W.ksFn "__init__" (x ++ ".__init__") args (PySem.WbX.supB arg f p0 p1 p2 p3 p4 p5 p6 p7 p8) sc .none kV doc pm an (.ref cda) ct cc) ⟨[u, v], []⟩ = pure [(("self" : Str), u), (f, v)])
    (hd : (args.posonlyargs ++ args.args).head?.map (·.arg) = some ("self" : Str)) (top : (P.main.scope.names.lookup ("super" : Str)).isSome = false) (sc1 : sc.names.lookup ("super" : Str) = some .globalImplicit) (sc2 : sc.names.lookup ("__class__" : Str) = some .free)
    (sc3 : sc.names.lookup ("self" : Str) = some .local) (sc4 : sc.names.lookup f = some .local) (sck : sc.kind = .function) (scc : sc.isCoroutine = false) (scg : sc.isGenerator = false) (nocell : ∀ y ∈ sc.names, y.2 ≠ .cell) (fs : (f == ("self" : Str)) = false) (fd : (f == ("__debug__" : Str)) = false) :
    PySem.WbX.Sup P K mg (ga K x) (fIn K x) (ccIn K x) (cdIn K x) (x ++ ".__init__") f arg args sc := by
  obtain ⟨c1, c⟩ := ba c
  obtain ⟨c2, c⟩ := ba c
  obtain ⟨c3, c⟩ := ba c
  obtain ⟨c4, c⟩ := ba c
  obtain ⟨c5, c⟩ := ba c
  obtain ⟨c6, c⟩ := ba c
  obtain ⟨c7, c⟩ := ba c
  obtain ⟨c8, c⟩ := ba c
  obtain ⟨c9, c⟩ := ba c
  obtain ⟨c10, c⟩ := ba c
  obtain ⟨c11, c⟩ := ba c
  obtain ⟨c12, c⟩ := ba c
  obtain ⟨c13, c⟩ := ba c
  obtain ⟨c14, c15⟩ := ba c
  refine ⟨clsVE_ok c1, eqO_ok c2, eqO_ok c3, eqO_ok c4, of_decide_eq_true c5, c6, of_decide_eq_true c7, of_decide_eq_true c8, of_decide_eq_true c9, of_decide_eq_true c10, eqO_ok c11, eqO_ok c12, noS, cell_ok c13, code_ok c14, ?_, hd, top, sc1, sc2, sc3, sc4, sck, scc, scg, nocell, fs, fd⟩
  have ef : fAd K (x, some "__init__") = fIn K x := rfl
  unfold fnC at e
  rw [ef] at e
  unfold bFn at c15
  unfold ccIn cdIn
  cases q : K.lookup (fIn K x) with
  | none => rw [q] at c15; cases c15
  | some o =>
    obtain ⟨oc, od, dt, osl⟩ := o
    rw [q] at c15 e
    cases dt with
    | func fd =>
      obtain ⟨n1, n2, n3, n4, n5, n6, n7, n8, n9, n10, n11, n12, n13, n14, n15⟩ := fd
      have e2 : (some (n1, n2, n3, n4, n5, n6, n7.map (·.1), n15) : FnC) = (some (("__init__" : Str), x ++ ".__init__", args, FuncBody.stmts (PySem.WbX.supB arg f p0 p1 p2 p3 p4 p5 p6 p7 p8), sc, mainGlobals, [("__class__" : Str)], builtinsNs) : FnC) := e
      simp only [Option.some.injEq, Prod.mk.injEq] at e2
      obtain ⟨h1, h2, h3, h4, h5, h6, h7, h8⟩ := e2
      subst h1 h2 h3 h4 h5 h6 h8
      match n7, n13, n8, c15, h7 with
      | [(nm, a)], .ref cda, .none, c15, h7 =>
        have h9 : nm = ("__class__" : Str) := by
          have z : [nm] = [("__class__" : Str)] := h7
          injection z
        subst h9
        exact ⟨oc, od, n9, n10, n11, n12, n14, osl, p0, p1, p2, p3, p4, p5, p6, p7, p8, rfl, c15, hl, fun u v => hb _ _ _ _ _ _ _ u v⟩
    | _ => cases c15
/-- the law's end over a head by tests, where no repr is under way -/
theorem walk_wgE {l : PySem.W.OpenLaw} {n k : Nat} {q : Program} {loose : List Str} {XP : (Str → Option Value) → Heap → Prop} {YP : World → Heap → Prop} {d : DefRec} {CX : CXT} {x : Str}
    (hn : l.most = some n) (hn2 : n ≤ sizeLine) (hdf : d.params.defaults = []) (hr : Room k callerA)
    (F : ∀ (w : World) (mg : Str → Option Value) (fa : Addr) (h : Heap), YP w h → h.Ns mainGlobals mg → mg d.name = some (.ref fa) →
      ∃ (K : PySem.W.Frag) (fd : FuncData) (sp : Sp), K.In h ∧ (∀ (s : Shared) (u : Value), BindsTo s fd ⟨[u], []⟩ [(x, u)]) ∧
        (∀ (H : Hp) (a : Addr) (ns : List Int), ns.length ≤ n → Only H → SqL K H a (ns.map V.int) → sp [.ref a] H (fun v _ => v = .bl true) fun _ _ _ => False) ∧
        ∀ base : Heap, K.In base → base.Ns mainGlobals mg → WG l.prog w K mg base CX k fa fd [x] sp)
    (hCX : ∀ (H : Hp) (s : Shared) (e : Value) (s' : Shared), CX [] H s (fun _ _ _ => False) e s' → False) :
    PySem.W.WalkO q loose XP YP l.row.toRowW d [] (fun f vs => PySem.call f vs) := by
  refine Att.attach_call hn hdf fun w s₀ s₁ mg mb fa o pm cd doc a vs ns G Y ho hd hcd hmg hobj hints hlen hg => ?_
  obtain ⟨K, fd, sp, KX, hb, hsp, hF⟩ := F w mg fa _ Y G.T.g hmg
  exact law_wg KX G.T.g G.T.b G.T.builtins G.T.nolimit hg hobj hints (Nat.le_trans hlen hn2) hr hF hb (fun H hO hS => hsp H a ns hlen hO hS) fun H e s' => hCX H s₁ e s'
end L2.Wb
namespace L2.Wb
open PySem PySem.Spec PyProof.Rows L2
theorem kbn_of {K : PySem.W.Frag} {x qual : Str} {st : Stmt} {f : Addr} {fd : FuncData} (F : Fun K x qual st f fd) {ps : List Str} {n : Nat} {ks : List Str}
    (h : ∀ (kV doc pm : Value) (an : Option Addr) (cdv ct : Value) (us ws : List Value), us.length = n → ws.length = ks.length → PySem.bindArgs (PySem.W.fnOf x qual (defArgs st) (defBody st) (defScope st) .none kV doc pm an cdv ct) ⟨us, ks.zip ws⟩ = pure (ps.zip (us ++ ws))) :
    ∃ g : List Value → List Value → List Value, KBn K fd ps n ks g (fun vs zs => vs ++ zs) := by
  obtain ⟨oc, od, kV, doc, pm, an, cdv, ct, osl, rfl, lk, hcd⟩ := F.ex
  exact ⟨fun us ws => us ++ ws, ⟨fun s us ws X l1 l2 => BindsTo.of_eq (h _ _ _ _ _ _ us ws l1 l2), fun r1 r2 => r1.append r2⟩⟩
end L2.Wb
/-! K01end -/
set_option Elab.async false
set_option linter.all false
set_option maxRecDepth 100000
set_option maxHeartbeats 8000000
namespace L2.K01
open PySem PySem.Spec PyProof.Rows L2.Wb He
def gD (x : Str) (i : Nat) : DefD := ⟨(x, none), x, x, defArgs (top i), defBody (top i), defScope (top i), [], []⟩
def gM (m : Str) (i : Nat) : DefD := ⟨("Yard", some m), m, "Yard." ++ m, defArgs (inClass (top 16) i), defBody (inClass (top 16) i), defScope (inClass (top 16) i), [], []⟩
def gMK (m : Str) (i : Nat) : DefD := ⟨("Yard", some m), m, "Yard." ++ m, defArgs (inClass (top 16) i), defBody (inClass (top 16) i), defScope (inClass (top 16) i), [], [("most", .int 20), ("lean", .int 3)]⟩
def cNB : CloD := ⟨("NoBeam", some "__init__"), "__init__", "NoBeam.__init__", defArgs (inClass (top 3) 0), defBody (inClass (top 3) 0), defScope (inClass (top 3) 0)⟩
def fileN : Str := PySem.Challenge.pw_wearybeams_k01_yards_known.main.file
def fns : List DefD := [gD "is_number" 5, gD "is_list" 6, gD "is_name" 10, gD "_are_names" 11, gD "_are_things" 12, gD "_is_beam" 13, gD "_are_beams" 14, gD "_few_leans" 15, gD "_law_begun" 18, gD "_law_next" 19, gD "_law_pick" 20, gD "_law_names" 21, gD "_law_is_name" 22, gD "_law_whole" 23, gD "_law_unlike" 24, gD "_law_due" 25, gD "_law_parts" 26, gD "_law_spoilt" 27, gD "_law_made" 28, gD "_law_no_beam" 29, gD "_law_tells" 30, gD "_law_near_unlike" 31, gD "law" 32, gMK "__init__" 0, gM "things" 1, gM "beams" 2, gM "most" 3, gM "lean" 4, gM "step" 5, gM "__eq__" 6]
def fcs : List CloD := [cNB]
def fcts : List Fct := [tFree "type",
  tFree "int",
  tFree "list",
  tFree "tuple",
  tFree "str",
  tFree "len",
  tFree "all",
  tFree "set",
  tCls "Yard",
  tNoat "Yard" "_things",
  tNoat "Yard" "_beams",
  tNoat "Yard" "_most",
  tNoat "Yard" "_lean",
  tExc "NoYard",
  tGlo "is_number",
  tKeep "is_number",
  tGlo "is_list",
  tKeep "is_list",
  tGlo "is_name",
  tKeep "is_name",
  tGlo "_are_names",
  tKeep "_are_names",
  tGlo "_is_beam",
  tKeep "_is_beam",
  tGlo "_are_things",
  tKeep "_are_things",
  tGlo "_are_beams",
  tKeep "_are_beams",
  tGlo "_few_leans",
  tKeep "_few_leans",
  tGlo "NoYard",
  tKlass "Yard",
  tFree "isinstance",
  tGlo "Yard",
  tKeep "Yard",
  tKitT "str" "Yard" false,
  tKitT "list" "Yard" false,
  tKit "Yard" "Yard" true,
  tFree "abs",
  tFree "range",
  tGlo "_law_next",
  tKeep "_law_next",
  tGlo "_law_pick",
  tKeep "_law_pick",
  tFree "bool",
  tGlo "_law_whole",
  tKeep "_law_whole",
  tGlo "_law_unlike",
  tKeep "_law_unlike",
  tGlo "_law_names",
  tKeep "_law_names",
  tMkr "Yard",
  tGlo "BeamError",
  tGlo "NoBeam",
  tExm "NoYard" "BeamError" true,
  tExm "NoBeam" "BeamError" true,
  tExD "NoYard",
  tExD "NoBeam",
  tKit "NoYard" "NoYard" true,
  tKit "NoYard" "NoBeam" false,
  tKit "NoBeam" "NoYard" false,
  tKit "NoBeam" "NoBeam" true,
  fun K => eqO (PySem.W.findIn K (.ref (ga K "NoBeam")) "beam") (some none),
  tSys,
  tFree "repr",
  tMeth_ "Yard" "things",
  tMeth_ "Yard" "beams",
  tMeth_ "Yard" "most",
  tMeth_ "Yard" "lean",
  tMeth_ "Yard" "step",
  tGlo "_law_no_beam",
  tKeep "_law_no_beam",
  tFree "max",
  tOEq "Yard",
  tGlo "_law_begun",
  tKeep "_law_begun",
  tGlo "_law_parts",
  tKeep "_law_parts",
  tGlo "_law_spoilt",
  tKeep "_law_spoilt",
  tGlo "_law_made",
  tKeep "_law_made",
  tGlo "_law_due",
  tKeep "_law_due",
  tGlo "_law_tells",
  tKeep "_law_tells",
  tGlo "_law_near_unlike",
  tKeep "_law_near_unlike",
  tGlo "_law_is_name",
  tKeep "_law_is_name",
  tInt "MOST" 20,
  tInt "LEAN" 3,
  tSup "NoBeam" "beam" fileN,
  tFree "super",
  tGlo "law"]
abbrev R : PySem.W.OpenRow := PySem.W.OpenLaw.row PySem.Challenge.rw_wearybeams_k01_yards_known
abbrev hk : PySem.W.Hook := hookW 6 fcts fns fcs
def ob (s : PySem.W.SharedT) : AlW := obsWG 6 fcts fns fcs (HandSHeadRun.getT s)
theorem ob_eq (s : PySem.W.SharedT) : ob s = hk.obs s.abs := obsWG_eq (HandSHeadRun.getT_eq s)
def loose : List Str := ["BeamError", "NoYard", "NoBeam", "MOST", "LEAN", "Yard", "is_number", "is_list", "is_name", "_are_names", "_are_things", "_is_beam", "_are_beams", "_few_leans", "_law_begun", "_law_next", "_law_pick", "_law_names", "_law_is_name", "_law_whole", "_law_unlike", "_law_due", "_law_parts", "_law_spoilt", "_law_made", "_law_no_beam", "_law_tells", "_law_near_unlike"]
theorem run (w : World) : HandSHeadRun.RunEq R (PySem.W.view R.prog [32]) hk ob 3000 loose w := by
  intro os
  kernel_rfl
end L2.K01
/-! K01fin -/
set_option Elab.async false
set_option linter.all false
set_option maxRecDepth 100000
set_option maxHeartbeats 8000000
namespace L2.K01
open PySem PySem.Spec PyProof.Rows L2.Wb He
theorem law_ok {w : World} {K : PySem.W.Frag} {h : Heap} {mg : Str → Option Value} {fa : Addr} {P : Program} (hP : P = PySem.Challenge.pw_wearybeams_k01_yards_known) (X : K.In h) (G : h.Ns mainGlobals mg) (hfa : mg ("law" : Str) = some (.ref fa)) (c : SaysW fcts fns fcs K) :
    ∃ fd : FuncData, (∀ (s : Shared) (v : Value), BindsTo s fd ⟨[v], []⟩ [("script", v)]) ∧ ∀ base : Heap, K.In base → base.Ns mainGlobals mg → WG P w K mg base CX0 7 fa fd ["script"] (spLaw K) := by
  subst hP
  have T0 : Txt K mg := ⟨(free_ok X G (c.fact 0)), (free_ok X G (c.fact 1)), (free_ok X G (c.fact 2)), (free_ok X G (c.fact 3)), (free_ok X G (c.fact 4)), (free_ok X G (c.fact 5)), (free_ok X G (c.fact 6)), (free_ok X G (c.fact 7))⟩
  obtain ⟨d_is_number, D_is_number⟩ := c.def_ 0 (d := gD "is_number" 5) rfl
  obtain ⟨d_is_list, D_is_list⟩ := c.def_ 1 (d := gD "is_list" 6) rfl
  obtain ⟨d_is_name, D_is_name⟩ := c.def_ 2 (d := gD "is_name" 10) rfl
  obtain ⟨d__are_names, D__are_names⟩ := c.def_ 3 (d := gD "_are_names" 11) rfl
  obtain ⟨d__are_things, D__are_things⟩ := c.def_ 4 (d := gD "_are_things" 12) rfl
  obtain ⟨d__is_beam, D__is_beam⟩ := c.def_ 5 (d := gD "_is_beam" 13) rfl
  obtain ⟨d__are_beams, D__are_beams⟩ := c.def_ 6 (d := gD "_are_beams" 14) rfl
  obtain ⟨d__few_leans, D__few_leans⟩ := c.def_ 7 (d := gD "_few_leans" 15) rfl
  obtain ⟨d__law_begun, D__law_begun⟩ := c.def_ 8 (d := gD "_law_begun" 18) rfl
  obtain ⟨d__law_next, D__law_next⟩ := c.def_ 9 (d := gD "_law_next" 19) rfl
  obtain ⟨d__law_pick, D__law_pick⟩ := c.def_ 10 (d := gD "_law_pick" 20) rfl
  obtain ⟨d__law_names, D__law_names⟩ := c.def_ 11 (d := gD "_law_names" 21) rfl
  obtain ⟨d__law_is_name, D__law_is_name⟩ := c.def_ 12 (d := gD "_law_is_name" 22) rfl
  obtain ⟨d__law_whole, D__law_whole⟩ := c.def_ 13 (d := gD "_law_whole" 23) rfl
  obtain ⟨d__law_unlike, D__law_unlike⟩ := c.def_ 14 (d := gD "_law_unlike" 24) rfl
  obtain ⟨d__law_due, D__law_due⟩ := c.def_ 15 (d := gD "_law_due" 25) rfl
  obtain ⟨d__law_parts, D__law_parts⟩ := c.def_ 16 (d := gD "_law_parts" 26) rfl
  obtain ⟨d__law_spoilt, D__law_spoilt⟩ := c.def_ 17 (d := gD "_law_spoilt" 27) rfl
  obtain ⟨d__law_made, D__law_made⟩ := c.def_ 18 (d := gD "_law_made" 28) rfl
  obtain ⟨d__law_no_beam, D__law_no_beam⟩ := c.def_ 19 (d := gD "_law_no_beam" 29) rfl
  obtain ⟨d__law_tells, D__law_tells⟩ := c.def_ 20 (d := gD "_law_tells" 30) rfl
  obtain ⟨d__law_near_unlike, D__law_near_unlike⟩ := c.def_ 21 (d := gD "_law_near_unlike" 31) rfl
  obtain ⟨d_law, D_law⟩ := c.def_ 22 (d := gD "law" 32) rfl
  obtain ⟨d_Yard___init__, D_Yard___init__⟩ := c.def_ 23 (d := gMK "__init__" 0) rfl
  obtain ⟨d_Yard_things, D_Yard_things⟩ := c.def_ 24 (d := gM "things" 1) rfl
  obtain ⟨d_Yard_beams, D_Yard_beams⟩ := c.def_ 25 (d := gM "beams" 2) rfl
  obtain ⟨d_Yard_most, D_Yard_most⟩ := c.def_ 26 (d := gM "most" 3) rfl
  obtain ⟨d_Yard_lean, D_Yard_lean⟩ := c.def_ 27 (d := gM "lean" 4) rfl
  obtain ⟨d_Yard_step, D_Yard_step⟩ := c.def_ 28 (d := gM "step" 5) rfl
  obtain ⟨d_Yard___eq__, D_Yard___eq__⟩ := c.def_ 29 (d := gM "__eq__" 6) rfl
  have F_is_number := fun_of (st := top 5) D_is_number
  have b_is_number := F_is_number.binds (ps := ["thing", "first", "last"]) fun _ _ _ _ _ _ us hl => match us, hl with | [_, _, _], _ => rfl
  have F_is_list := fun_of (st := top 6) D_is_list
  have b_is_list := F_is_list.binds (ps := ["thing"]) fun _ _ _ _ _ _ us hl => match us, hl with | [_], _ => rfl
  have F_is_name := fun_of (st := top 10) D_is_name
  have b_is_name := F_is_name.binds (ps := ["thing"]) fun _ _ _ _ _ _ us hl => match us, hl with | [_], _ => rfl
  have F__are_names := fun_of (st := top 11) D__are_names
  have b__are_names := F__are_names.binds (ps := ["things"]) fun _ _ _ _ _ _ us hl => match us, hl with | [_], _ => rfl
  have F__are_things := fun_of (st := top 12) D__are_things
  have b__are_things := F__are_things.binds (ps := ["things"]) fun _ _ _ _ _ _ us hl => match us, hl with | [_], _ => rfl
  have F__is_beam := fun_of (st := top 13) D__is_beam
  have b__is_beam := F__is_beam.binds (ps := ["pair"]) fun _ _ _ _ _ _ us hl => match us, hl with | [_], _ => rfl
  have F__are_beams := fun_of (st := top 14) D__are_beams
  have b__are_beams := F__are_beams.binds (ps := ["beams"]) fun _ _ _ _ _ _ us hl => match us, hl with | [_], _ => rfl
  have F__few_leans := fun_of (st := top 15) D__few_leans
  have b__few_leans := F__few_leans.binds (ps := ["beams", "lean"]) fun _ _ _ _ _ _ us hl => match us, hl with | [_, _], _ => rfl
  have F__law_begun := fun_of (st := top 18) D__law_begun
  have b__law_begun := F__law_begun.binds (ps := ["script"]) fun _ _ _ _ _ _ us hl => match us, hl with | [_], _ => rfl
  have F__law_next := fun_of (st := top 19) D__law_next
  have b__law_next := F__law_next.binds (ps := ["state", "size"]) fun _ _ _ _ _ _ us hl => match us, hl with | [_, _], _ => rfl
  have F__law_pick := fun_of (st := top 20) D__law_pick
  have b__law_pick := F__law_pick.binds (ps := ["state", "some"]) fun _ _ _ _ _ _ us hl => match us, hl with | [_, _], _ => rfl
  have F__law_names := fun_of (st := top 21) D__law_names
  have b__law_names := F__law_names.binds (ps := ["state", "many"]) fun _ _ _ _ _ _ us hl => match us, hl with | [_, _], _ => rfl
  have F__law_is_name := fun_of (st := top 22) D__law_is_name
  have b__law_is_name := F__law_is_name.binds (ps := ["item"]) fun _ _ _ _ _ _ us hl => match us, hl with | [_], _ => rfl
  have F__law_whole := fun_of (st := top 23) D__law_whole
  have b__law_whole := F__law_whole.binds (ps := ["item", "low", "high"]) fun _ _ _ _ _ _ us hl => match us, hl with | [_, _, _], _ => rfl
  have F__law_unlike := fun_of (st := top 24) D__law_unlike
  have b__law_unlike := F__law_unlike.binds (ps := ["item", "many"]) fun _ _ _ _ _ _ us hl => match us, hl with | [_, _], _ => rfl
  have F__law_due := fun_of (st := top 25) D__law_due
  have b__law_due := F__law_due.binds (ps := ["row"]) fun _ _ _ _ _ _ us hl => match us, hl with | [_], _ => rfl
  have F__law_parts := fun_of (st := top 26) D__law_parts
  have b__law_parts := F__law_parts.binds (ps := ["state"]) fun _ _ _ _ _ _ us hl => match us, hl with | [_], _ => rfl
  have F__law_spoilt := fun_of (st := top 27) D__law_spoilt
  have b__law_spoilt := F__law_spoilt.binds (ps := ["state", "row"]) fun _ _ _ _ _ _ us hl => match us, hl with | [_, _], _ => rfl
  have F__law_made := fun_of (st := top 28) D__law_made
  have b__law_made := F__law_made.binds (ps := ["row", "way"]) fun _ _ _ _ _ _ us hl => match us, hl with | [_, _], _ => rfl
  have F__law_no_beam := fun_of (st := top 29) D__law_no_beam
  have b__law_no_beam := F__law_no_beam.binds (ps := ["yard", "item"]) fun _ _ _ _ _ _ us hl => match us, hl with | [_, _], _ => rfl
  have F__law_tells := fun_of (st := top 30) D__law_tells
  have b__law_tells := F__law_tells.binds (ps := ["state", "yard", "row"]) fun _ _ _ _ _ _ us hl => match us, hl with | [_, _, _], _ => rfl
  have F__law_near_unlike := fun_of (st := top 31) D__law_near_unlike
  have b__law_near_unlike := F__law_near_unlike.binds (ps := ["state", "yard", "row"]) fun _ _ _ _ _ _ us hl => match us, hl with | [_, _, _], _ => rfl
  have F_law := fun_of (st := top 32) D_law
  have b_law := F_law.binds (ps := ["script"]) fun _ _ _ _ _ _ us hl => match us, hl with | [_], _ => rfl
  have F_Yard___init__ := fun_of (st := inClass (top 16) 0) D_Yard___init__
  have F_Yard_things := fun_of (st := inClass (top 16) 1) D_Yard_things
  have b_Yard_things := F_Yard_things.binds (ps := ["self"]) fun _ _ _ _ _ _ us hl => match us, hl with | [_], _ => rfl
  have F_Yard_beams := fun_of (st := inClass (top 16) 2) D_Yard_beams
  have b_Yard_beams := F_Yard_beams.binds (ps := ["self"]) fun _ _ _ _ _ _ us hl => match us, hl with | [_], _ => rfl
  have F_Yard_most := fun_of (st := inClass (top 16) 3) D_Yard_most
  have b_Yard_most := F_Yard_most.binds (ps := ["self"]) fun _ _ _ _ _ _ us hl => match us, hl with | [_], _ => rfl
  have F_Yard_lean := fun_of (st := inClass (top 16) 4) D_Yard_lean
  have b_Yard_lean := F_Yard_lean.binds (ps := ["self"]) fun _ _ _ _ _ _ us hl => match us, hl with | [_], _ => rfl
  have F_Yard_step := fun_of (st := inClass (top 16) 5) D_Yard_step
  have b_Yard_step := F_Yard_step.binds (ps := ["self", "beam"]) fun _ _ _ _ _ _ us hl => match us, hl with | [_, _], _ => rfl
  have F_Yard___eq__ := fun_of (st := inClass (top 16) 6) D_Yard___eq__
  have b_Yard___eq__ := F_Yard___eq__.binds (ps := ["self", "other"]) fun _ _ _ _ _ _ us hl => match us, hl with | [_, _], _ => rfl
  obtain ⟨xNY, kNY, eNY, tNY⟩ := exc_ok (c.fact 13)
  have TB : TxtB K mg _ _ _ _ _ := ⟨T0, (glo_ok X G (c.fact 14)), (c.fact 15), (glo_ok X G (c.fact 16)), (c.fact 17), (glo_ok X G (c.fact 18)), (c.fact 19), (glo_ok X G (c.fact 20)), (c.fact 21), (glo_ok X G (c.fact 22)), (c.fact 23)⟩
  have TY : TxtY K mg _ _ _ _ (ga K "Yard") (ga K "NoYard") := ⟨T0, (glo_ok X G (c.fact 24)), (c.fact 25), (glo_ok X G (c.fact 26)), (c.fact 27), (glo_ok X G (c.fact 14)), (c.fact 15), (glo_ok X G (c.fact 28)), (c.fact 29), (glo_ok X G (c.fact 30)), kNY, xNY, eNY, tNY, (cls_ok (c.fact 8)), (noat_ok (c.fact 9)), (noat_ok (c.fact 10)), (noat_ok (c.fact 11)), (noat_ok (c.fact 12))⟩
  obtain ⟨kl1, kl2, kl3, kl4⟩ := klass_ok (c.fact 31)
  have TM : TxtM K mg (ga K "Yard") := ⟨(free_ok X G (c.fact 2)), (free_ok X G (c.fact 32)), (glo_ok X G (c.fact 33)), (c.fact 34), (cls_ok (c.fact 8)), (noat_ok (c.fact 9)), (noat_ok (c.fact 10)), (noat_ok (c.fact 11)), (noat_ok (c.fact 12)), kl1, kl2, kl3, kl4, of_decide_eq_true (c.fact 35), of_decide_eq_true (c.fact 36), of_decide_eq_true (c.fact 37)⟩
  have TL : TxtL K mg := ⟨(free_ok X G (c.fact 38)), (free_ok X G (c.fact 5))⟩
  have TN : TxtN K mg _ _ := ⟨TL, (free_ok X G (c.fact 39)), (glo_ok X G (c.fact 40)), (c.fact 41), (glo_ok X G (c.fact 42)), (c.fact 43)⟩
  have TJ : TxtJ K mg := ⟨T0, (free_ok X G (c.fact 32)), (free_ok X G (c.fact 44))⟩
  have TD : TxtD K mg _ _ := ⟨TJ, (glo_ok X G (c.fact 45)), (c.fact 46), (glo_ok X G (c.fact 47)), (c.fact 48)⟩
  have TP : TxtP K mg _ _ _ := ⟨TN, (glo_ok X G (c.fact 49)), (c.fact 50)⟩
  have TE : TxtE K mg (ga K "BeamError") (ga K "NoYard") (ga K "NoBeam") (ga K "Yard") _ := ⟨(free_ok X G (c.fact 32)), (glo_ok X G (c.fact 52)), (glo_ok X G (c.fact 30)), (glo_ok X G (c.fact 53)), (glo_ok X G (c.fact 33)), (mkr_ok (c.fact 51)), exm_ok (c.fact 54), exm_ok (c.fact 55), exd_ok (c.fact 56), exd_ok (c.fact 57), (of_decide_eq_true (c.fact 58)), (of_decide_eq_true (c.fact 59)), (of_decide_eq_true (c.fact 60)), (of_decide_eq_true (c.fact 61)), eqO_ok (c.fact 62)⟩
  have TT : TxtT K mg (ga K "Yard") _ _ _ _ _ _ _ := ⟨TM, (free_ok X G (c.fact 2)), (free_ok X G (c.fact 64)), (free_ok X G (c.fact 39)), (c.fact 63), (meth_ok (c.fact 65)), (meth_ok (c.fact 66)), (meth_ok (c.fact 67)), (meth_ok (c.fact 68)), (meth_ok (c.fact 69)), (glo_ok X G (c.fact 42)), (c.fact 43), (glo_ok X G (c.fact 70)), (c.fact 71)⟩
  have TU : TxtU K mg (ga K "Yard") _ _ (ma K (ga K "Yard") "__eq__") := ⟨(free_ok X G (c.fact 2)), (free_ok X G (c.fact 5)), (free_ok X G (c.fact 72)), (mkr_ok (c.fact 51)), (glo_ok X G (c.fact 33)), (glo_ok X G (c.fact 40)), (c.fact 41), (oeq_ok (c.fact 73))⟩
  have TW : TxtW K mg (ga K "Yard") _ (ma K (ga K "Yard") "__eq__") _ _ _ _ _ _ _ _ _ _ _ _ := ⟨(free_ok X G (c.fact 2)), (free_ok X G (c.fact 3)), (free_ok X G (c.fact 39)), (free_ok X G (c.fact 64)), (free_ok X G (c.fact 32)), (c.fact 63), (cls_ok (c.fact 8)), (mkr_ok (c.fact 51)), (glo_ok X G (c.fact 33)), (oeq_ok (c.fact 73)), (glo_ok X G (c.fact 74)), (c.fact 75), (glo_ok X G (c.fact 40)), (c.fact 41), (glo_ok X G (c.fact 76)), (c.fact 77), (glo_ok X G (c.fact 78)), (c.fact 79), (glo_ok X G (c.fact 80)), (c.fact 81), (glo_ok X G (c.fact 82)), (c.fact 83), (glo_ok X G (c.fact 84)), (c.fact 85), (glo_ok X G (c.fact 86)), (c.fact 87), (glo_ok X G (c.fact 18)), (c.fact 19), (glo_ok X G (c.fact 88)), (c.fact 89), (meth_ok (c.fact 67)), (meth_ok (c.fact 68)), int_ok X G (c.fact 90), int_ok X G (c.fact 91)⟩
  have S := sup_ok (P := PySem.Challenge.pw_wearybeams_k01_yards_known) (mg := mg) (x := "NoBeam") (f := "beam") (c.fact 92) (c.clo 0 (d := cNB) rfl) (free_ok X G (c.fact 93)) rfl (fun _ _ _ _ _ _ _ _ _ => rfl) rfl (by decide +kernel) (by decide +kernel) (by decide +kernel) (by decide +kernel) (by decide +kernel) rfl rfl rfl (by decide +kernel) (by decide +kernel) (by decide +kernel)
  have e := hfa.symm.trans (glo_ok X G (c.fact 94))
  cases e
  refine ⟨d_law, fun s v => D_law.bindsA (ps := ["script"]) (fun _ _ _ _ _ _ us hl => match us, hl with | [_], _ => rfl) s [v] rfl, fun base _ _ => ?_⟩
  obtain ⟨gA, bA⟩ := yard_bA D_Yard___init__
  obtain ⟨gB, bB⟩ := yard_bB D_Yard___init__
  obtain ⟨gC, bC⟩ := yard_bC D_Yard___init__
  obtain ⟨dfl, hdfl, bI⟩ := yard_bI D_Yard___init__
  have G1 := ok_num (P := PySem.Challenge.pw_wearybeams_k01_yards_known) (w := w) (base := base) F_is_number T0
  have G2 := ok_lst (P := PySem.Challenge.pw_wearybeams_k01_yards_known) (w := w) (base := base) F_is_list T0
  have G3 := ok_name (P := PySem.Challenge.pw_wearybeams_k01_yards_known) (w := w) (base := base) F_is_name T0
  have G4 := ok_names (P := PySem.Challenge.pw_wearybeams_k01_yards_known) (w := w) (base := base) F__are_names TB G3 b_is_name
  have G5 := ok_things (P := PySem.Challenge.pw_wearybeams_k01_yards_known) (w := w) (base := base) F__are_things TB G2 b_is_list G4 b__are_names
  have G6 := ok_beam (P := PySem.Challenge.pw_wearybeams_k01_yards_known) (w := w) (base := base) F__is_beam TB G1 b_is_number
  have G7 := ok_beams (P := PySem.Challenge.pw_wearybeams_k01_yards_known) (w := w) (base := base) F__are_beams TB G2 b_is_list G4 b__are_names G6 b__is_beam
  have G8 := ok_few (P := PySem.Challenge.pw_wearybeams_k01_yards_known) (w := w) (mg := mg) (base := base) F__few_leans
  have GI := ok_init (P := PySem.Challenge.pw_wearybeams_k01_yards_known) (w := w) (base := base) F_Yard___init__ TY G5 b__are_things G7 b__are_beams G1 b_is_number G8 b__few_leans
  have MTh := ok_ths (P := PySem.Challenge.pw_wearybeams_k01_yards_known) (w := w) (base := base) F_Yard_things TM
  have MBm := ok_bms (P := PySem.Challenge.pw_wearybeams_k01_yards_known) (w := w) (base := base) F_Yard_beams TM
  have MMo := ok_most (P := PySem.Challenge.pw_wearybeams_k01_yards_known) (w := w) (base := base) F_Yard_most TM
  have MLe := ok_lean (P := PySem.Challenge.pw_wearybeams_k01_yards_known) (w := w) (base := base) F_Yard_lean TM
  have MSt := ok_step (P := PySem.Challenge.pw_wearybeams_k01_yards_known) (w := w) (base := base) F_Yard_step TM S (glo_ok X G (c.fact 53)) (fun _ => PySem.WbX.arg_str) PySem.WbX.form_str
  have MEq := ok_eq (P := PySem.Challenge.pw_wearybeams_k01_yards_known) (w := w) (base := base) F_Yard___eq__ TM
  have H1 := ok_begun (P := PySem.Challenge.pw_wearybeams_k01_yards_known) (w := w) (base := base) F__law_begun TL
  have H2 := ok_next (P := PySem.Challenge.pw_wearybeams_k01_yards_known) (w := w) (base := base) F__law_next TL
  have H3 := ok_pick (P := PySem.Challenge.pw_wearybeams_k01_yards_known) (w := w) (base := base) F__law_pick TL H2 TN.gN TN.kN b__law_next
  have H4 := ok_lnames (P := PySem.Challenge.pw_wearybeams_k01_yards_known) (w := w) (base := base) F__law_names TN H2 b__law_next H3 b__law_pick
  have H5 := ok_lis (P := PySem.Challenge.pw_wearybeams_k01_yards_known) (w := w) (base := base) F__law_is_name TJ
  have H6 := ok_whole (P := PySem.Challenge.pw_wearybeams_k01_yards_known) (w := w) (base := base) F__law_whole TJ
  have H7 := ok_unlike (P := PySem.Challenge.pw_wearybeams_k01_yards_known) (w := w) (base := base) F__law_unlike TJ H5 (glo_ok X G (c.fact 88)) (c.fact 89) b__law_is_name
  have H8 := ok_due (P := PySem.Challenge.pw_wearybeams_k01_yards_known) (w := w) (base := base) F__law_due TD H6 b__law_whole H7 b__law_unlike
  have H9 := ok_parts (P := PySem.Challenge.pw_wearybeams_k01_yards_known) (w := w) (base := base) F__law_parts TP H2 b__law_next H3 b__law_pick H4 b__law_names
  have H10 := ok_spoilt (P := PySem.Challenge.pw_wearybeams_k01_yards_known) (w := w) (base := base) F__law_spoilt TN H2 b__law_next H3 b__law_pick
  have H11 := ok_made (P := PySem.Challenge.pw_wearybeams_k01_yards_known) (w := w) (base := base) F__law_made TE GI bA bB
  have H12 := ok_noB (P := PySem.Challenge.pw_wearybeams_k01_yards_known) (w := w) (base := base) F__law_no_beam TE TM (free_ok X G (c.fact 64)) (c.fact 63) (meth_ok (c.fact 69)) MSt b_Yard_step
  obtain ⟨gS, bS⟩ : ∃ g : List Value → List Value → List Value, KBn K d_Yard_step ["self", "beam"] 1 ["beam"] g (fun vs zs => vs ++ zs) := kbn_of F_Yard_step fun _ _ _ _ _ _ us ws h1 h2 => match us, ws, h1, h2 with | [_], [_], _, _ => rfl
  have H13 := ok_tells (P := PySem.Challenge.pw_wearybeams_k01_yards_known) (w := w) (base := base) F__law_tells TT MTh b_Yard_things MBm b_Yard_beams MMo b_Yard_most MLe b_Yard_lean MSt bS H3 b__law_pick H12 b__law_no_beam
  have H14 := ok_near (P := PySem.Challenge.pw_wearybeams_k01_yards_known) (w := w) (base := base) F__law_near_unlike TU GI bA H2 b__law_next MEq b_Yard___eq__
  obtain ⟨gW, bW⟩ : ∃ g : List Value → List Value → List Value, KBn K d_is_name ["thing"] 0 ["thing"] g (fun vs zs => vs ++ zs) := kbn_of F_is_name fun _ _ _ _ _ _ us ws h1 h2 => match us, ws, h1, h2 with | [], [_], _, _ => rfl
  exact ok_law (gI := fun a _ => a) F_law TW H1 b__law_begun H2 b__law_next H9 b__law_parts H10 b__law_spoilt H11 b__law_made H8 b__law_due H13 b__law_tells H14 b__law_near_unlike MEq b_Yard___eq__ GI bI hdfl bC G3 bW H5 b__law_is_name MMo b_Yard_most MLe b_Yard_lean
end L2.K01
open PySem PySem.W PySem.Calls PyProof.Rows
set_option maxRecDepth 100000 in
set_option maxHeartbeats 0 in
theorem PySem.Challenge.cw_wearybeams_k01_yards_known_holds : PySem.Challenge.rw_wearybeams_k01_yards_known.Holds := by
  w_on; o_law
  refine HandSHeadRun.head_any (r := OpenLaw.row PySem.Challenge.rw_wearybeams_k01_yards_known) (q := view (OpenLaw.row PySem.Challenge.rw_wearybeams_k01_yards_known).prog [32]) (H := L2.K01.hk) (ob := L2.K01.ob) (M := 3000) (loose := L2.K01.loose) (d := HandSHeadRun.topDef (OpenLaw.row PySem.Challenge.rw_wearybeams_k01_yards_known).prog 32) (kwd := []) L2.K01.ob_eq
    (by kernel_rfl) (fun s => by kernel_rfl) L2.K01.run (by kernel_rfl) (by kernel_rfl) (by kernel_rfl) (by rfl) (by first | assumption | decide +kernel) (by decide +kernel) ⟨rfl, rfl, rfl, rfl, rfl, by decide +kernel⟩ ?hw ?hc
  case hw => w_witness2
  case hc =>
    refine L2.Wb.walk_wgE (l := PySem.Challenge.rw_wearybeams_k01_yards_known) (n := 63) (k := 7) (x := "script") (CX := L2.CX0) rfl (by decide) (by kernel_rfl) ⟨rfl, by decide, by decide⟩ ?F (fun _ _ _ _ z => z)
    intro w mg fa h Y G hmg0
    obtain ⟨K, KX, c⟩ := Y
    have hmg : mg ("law" : PySem.Str) = some (.ref fa) := by
      have e : (HandSHeadRun.topDef (OpenLaw.row PySem.Challenge.rw_wearybeams_k01_yards_known).prog 32).name = ("law" : PySem.Str) := by kernel_rfl
      rw [← e]
      exact hmg0
    obtain ⟨fd, hb, hF⟩ := L2.K01.law_ok (P := (PySem.Challenge.rw_wearybeams_k01_yards_known).prog) (w := w) rfl KX G hmg c
    exact ⟨K, fd, L2.K01.spLaw K, KX, hb, fun H a ns hl _ hS => ⟨a, ns, rfl, hS, hl, fun _ => rfl⟩, hF⟩
