import PyProof.Rows.All
import Wide.All
import OpenK.AllK
import Wide.FinOn
import HandS.ForMost
import HandS.Exc
import HandS.ExcOwn
import PyProof.ReprRoads
import HandS.Codes
import HandS.StrMore
import HandS.Text
import HandS.ExcInit
import HandS.ExcField
import HandS.IsInst
import KE.KExcIs
import KE.KTypeName
import HandS.TryOnly
import HandS.ExcCtx
import HandS.HotCalls
import HandS.Comp
import PyProof.StrLawsRepr
import PyProof.FitsInt
import HandS.Deep
import HandS.Wide
import HandS.WordsExc
import HandS.More
import HandS.HeadHook3
import PyProof.P3In
import HandS.Conv
import HandS.Replace
import PyProof.StrBlock2
import PyProof.Rows.StrMul
import HandS.Style
import PySem.Challenge.RW_nevercrossed_k11_texts_of_walks_refused
set_option Elab.async false
set_option linter.all false
set_option maxRecDepth 100000
set_option maxHeartbeats 4000000
/-! Calls made where no value is being shown (so that repr may be asked), and the end of a law for such defs. -/
namespace Nv
open PySem PySem.Spec PyProof.Rows L2

structure FnG (P : Program) (w : World) (K : PySem.W.Frag) (mg : Str → Option Value) (base : Heap) (k : Nat) (f : Addr) (fd : FuncData) (ps : List Str) (sp : Sp) : Prop where
  many : ∀ vs H Q E, sp vs H Q E → vs.length = ps.length
  does : ∀ (A : Around) (outer : List Env) (s : Shared) (H : Hp) (ar : Args) (us : List Value) (vs : List V) (Q : VK) (E : XK),
    A.guards = some [] → Room k A → Env0 P w K mg base A outer s H → BindsTo s fd ar (ps.zip us) → Vals vs us → sp vs H Q E →
    codeAny (model P w) A (.call (.ref f) ar) (CR CX0 outer P w H s Q E) s

theorem all_kinds {N ps : List Str} {sc : Scope} (S : FnScope N ps sc) (us : List Value) :
    ((ps.zip us).all fun y => sc.names.lookup y.1 == some .local || sc.names.lookup y.1 == some .cell) = true := by
  rw [List.all_eq_true]
  rintro ⟨x, v⟩ hy
  rcases S.par x (List.of_mem_zip hy).1 with q | q <;> simp [q]

section
variable {P : Program} {w : World} {K : PySem.W.Frag} {mg : Str → Option Value} {base : Heap}
theorem FnG.made {x qual : Str} {st : Stmt} {f : Addr} {fd : FuncData} {N ps : List Str} {k : Nat} {sp : Sp} (F : Fun K x qual st f fd) (S : FnScope N ps (defScope st))
    (many : ∀ vs H Q E, sp vs H Q E → vs.length = ps.length)
    (body : ∀ (cdv : Value) (A : Around) (outer : List Env) (s : Shared) (H : Hp) (vs : List V) (Q : VK) (E : XK), A.guards = some [] →
      Room k (A.deeper (envOfC qual (defScope st) s.heap.objs.size f cdv)) → sp vs H Q E →
      ∃ t, PSs (cxOf CX0 P w K mg base N qual (defScope st) f cdv A outer s H E).nox (defBody st) t ∧ t { nx := fun _ H' => Q .non H', rt := Q } (start N vs) H) :
    FnG P w K mg base (k + 1) f fd ps sp := by
  obtain ⟨oc, od, kV, doc, pm, an, cdv, ct, osl, rfl, lk, hcd⟩ := F.ex
  constructor
  · exact many
  intro A outer s H ar us vs Q E gd room env hb rel want
  obtain ⟨t, der, hq⟩ := body cdv A outer s H vs Q E gd (room.deeper _) want
  have inK : K.In s.heap := env.mod.kin.keeps fun b o z => (env.bs b o z).1
  have nolim : s.heap.NoLimit := env.mod.nolimit.keeps fun b o z => (env.bs b o z).1
  refine Att.call_fn inK nolim lk hcd room.depth hb (all_kinds S us) (fun s1 ic => ?_) S.co S.gen S.kind
  have J := inv_start (CX := CX0) (E := E) (N := N) S room.hd env (many _ _ _ _ want) rel ic
  refine wpAny_mono (der.nox.run [] s1 _ H _ J hq) ?_ fun _ _ z => z
  rintro (_ | _ | _ | u) s' z
  · obtain ⟨σ', H', J', q⟩ := z
    exact ⟨.non, H', J'.os, J'.bare, J'.base, J'.hok, rfl, q⟩
  · obtain ⟨_, _, _, q⟩ := z
    exact q.elim
  · obtain ⟨_, _, _, q⟩ := z
    exact q.elim
  · obtain ⟨v, σ', H', J', r, q⟩ := z
    exact ⟨v, H', J'.os, J'.bare, J'.base, J'.hok, r, q⟩
end

section
variable {X : Cx} {k : Nat} {f : Addr} {fd : FuncData} {ps : List Str} {sp : Sp} {x : Str} {p pos : Pos} {e : Expr} {es : List Expr} {t : TA}
/-- x(e, ..), nothing raised -/
theorem pe_callG (F : FnG X.prog X.w X.K X.mg X.base k f fd ps sp) (gd : X.A.guards = some []) (hr : Room k X.A) (hg : Gl X x) (hm : X.mg x = some (.ref f)) (hk : PySem.W.keepIn X.K (.ref f) = true)
    (hb : Binds X.K fd ps []) (ha : PA X (e :: es) t) (hdb : (x == ("__debug__" : Str)) = false := by decide)
    (he : starEach (e :: es) X.env = (false, eval e X.env) :: starEach es X.env := by rfl) (hpl : (backTo pos (starEach es X.env)).any (·.1) = false := by rfl) :
    PE X (.Call (.Name x p) (e :: es) [] pos) (tCall sp [] E0 t) := by
  constructor
  intro pins s σ H Q I h
  refine wpAny_Call_Name_kw (ld_glob I hg hm (PySem.W.callWith_K (h₀ := X.base) I.ok.mod.kin hk (thn (ha.run pos pins s σ H _ I h) ?_) he hpl) hdb)
  rintro us s1 ⟨vs, H1, I1, r, q⟩
  rw [List.append_nil] at q
  have lu : (us ++ ([] : List Value)).length = ps.length := by rw [List.append_nil, ← r.length]; exact F.many _ _ _ _ q
  have b := hb s1 us I1.kIn lu
  rw [List.append_nil] at b
  refine ⟨I1.kIn, wpAny_call (codeAny_mono (F.does X.A X.stack s1 H1 ⟨us, []⟩ us vs Q E0 gd hr I1.env0 b r q) ?_)⟩
  rintro (z | (_ | _ | _ | u)) s2 hz
  · exact hz.elim
  · exact hz.elim
  · exact hz.elim
  · exact hz.elim
  · exact I1.after hz
end
end Nv
set_option Elab.async false
set_option linter.all false
set_option maxRecDepth 100000
set_option maxHeartbeats 4000000
/-! The end of a law whose def shows values. -/
namespace Nv
open PySem PySem.Spec PyProof.Rows L2

section
variable {P : Program} {w : World} {K : PySem.W.Frag} {mg mb : Str → Option Value} {k : Nat} {fa a : Addr} {fd : FuncData} {x : Str} {sp : Sp} {s1 : Shared} {vs : List Value} {ns : List Int}
/-- nothing is tracked, or the script alone -/
structure Alone (s1 : Shared) (a : Addr) (vs : List Value) (ns : List Int) (H : Hp) : Prop where
  one : ∀ b u, H b = some u → b = a ∧ u = .frz { cls := .type "list", data := .seq vs.toArray } (.lst (ns.map V.int))
theorem Alone.dict_free {H : Hp} (z : Alone s1 a vs ns H) (ha : s1.heap.get? a = some { cls := .type "list", data := .seq vs.toArray }) {b : Addr} {o : Obj} {es : Array DictEntry} {ep : Nat} (e : s1.heap.get? b = some o) (d : o.data = .dict es ep) : H b = none := by
  cases q : H b with
  | none => rfl
  | some u =>
    have eb := (z.one b u q).1
    rw [eb, ha] at e
    cases e
    exact nomatch d
theorem Alone.ns_kept {H : Hp} (z : Alone s1 a vs ns H) (ha : s1.heap.get? a = some { cls := .type "list", data := .seq vs.toArray }) {b : Addr} {m : Str → Option Value} : s1.heap.Ns b m → (hidT s1.heap H).Ns b m := by
  rintro ⟨o, es, ep, e, d, r⟩
  exact ⟨o, es, ep, hidT_get e (z.dict_free ha e d), d, r⟩
theorem end_of (KX : K.In s1.heap) (hns : s1.heap.Ns mainGlobals mg) (hb : s1.heap.Ns builtinsNs mb) (hbb : ∀ x : Str, x ≠ "__name__" → mb x = bootBuiltins x) (hlim : s1.heap.NoLimit) (hg : s1.gens = #[])
    (ha : s1.heap.get? a = some { cls := .type "list", data := .seq vs.toArray }) (hr : Room k callerA)
    (F : ∀ base : Heap, K.In base → base.Ns mainGlobals mg → FnG P w K mg base k fa fd [x] sp) (hbind : ∀ (s : Shared) (u : Value), BindsTo s fd ⟨[u], []⟩ [(x, u)])
    {H : Hp} (z : Alone s1 a vs ns H) (nk : ∀ b u, H b = some u → K.lookup b = none) (hok : HOk P w H s1.heap) (want : sp [.ref a] H (fun v _ => v = .bl true) E0) :
    codeAny (model P w) callerA (.call (.ref fa) ⟨[.ref a], []⟩) (fun r s' => r = .ok (.ret (.bool true)) ∧ OldK s1.heap s'.heap ∧ s'.os = s1.os ∧ AllBare s'.gens) s1 := by
  have kb : K.In (hidT s1.heap H) := by
    intro b o e
    refine hidT_get (KX b o e) ?_
    cases q : H b with
    | none => rfl
    | some u =>
      rw [nk b u q] at e
      cases e
  obtain ⟨ml, l1, l2⟩ := hlim
  have md : Mod K mg (hidT s1.heap H) := { kin := kb, glob := z.ns_kept ha hns, blt := ⟨mb, z.ns_kept ha hb, hbb⟩, nolimit := ⟨ml, z.ns_kept ha l1, l2⟩ }
  have env : Env0 P w K mg (hidT s1.heap H) callerA [] s1 H := { frames := rfl, mod := md, bs := fun _ _ e => of_hidT e, bsz := Nat.le_of_eq (hidT_size _ _), funs := trivial, frf := fun b h => (List.not_mem_nil h).elim, hok := hok, bare := .of_eq hg }
  refine codeAny_mono ((F _ kb (z.ns_kept ha hns)).does callerA [] s1 H ⟨[.ref a], []⟩ [.ref a] [.ref a] _ E0 rfl hr env (hbind s1 (.ref a)) (.cons rfl .nil) want) ?_
  rintro (e | (_ | _ | _ | u)) s' h
  · exact h.elim
  · exact h.elim
  · exact h.elim
  · exact h.elim
  obtain ⟨v, H', os, bare, un, hok', rv, q⟩ := h
  subst q
  cases (show u = Value.bool true from rv)
  refine ⟨rfl, OldK.of_keep fun b o e => ?_, os, bare⟩
  cases q : H b with
  | none => exact un.keep b o e q List.not_mem_nil List.not_mem_nil
  | some t =>
    have et := (z.one b t q).2
    subst et
    have e1 := (hok b _ q).1
    rw [e] at e1
    cases e1
    exact (hok' b _ (un.frzs b _ _ q)).1
theorem law_endG (KX : K.In s1.heap) (hns : s1.heap.Ns mainGlobals mg) (hb : s1.heap.Ns builtinsNs mb) (hbb : ∀ x : Str, x ≠ "__name__" → mb x = bootBuiltins x) (hlim : s1.heap.NoLimit) (hg : s1.gens = #[])
    (ha : s1.heap.get? a = some { cls := .type "list", data := .seq vs.toArray }) (hi : IntsAre vs ns) (hl : ns.length ≤ sizeLine) (hr : Room k callerA)
    (F : ∀ base : Heap, K.In base → base.Ns mainGlobals mg → FnG P w K mg base k fa fd [x] sp) (hbind : ∀ (s : Shared) (u : Value), BindsTo s fd ⟨[u], []⟩ [(x, u)])
    (want : ∀ H : Hp, SqL K H a (ns.map V.int) → sp [.ref a] H (fun v _ => v = .bl true) E0) :
    codeAny (model P w) callerA (.call (.ref fa) ⟨[.ref a], []⟩) (fun r s' => r = .ok (.ret (.bool true)) ∧ OldK s1.heap s'.heap ∧ s'.os = s1.os ∧ AllBare s'.gens) s1 := by
  have rv := vals_ints hi
  by_cases hk : ∃ o, K.lookup a = some o
  · obtain ⟨o, hk⟩ := hk
    have eo : o = { cls := .type "list", data := .seq vs.toArray } := by
      have z := KX a o hk
      rw [ha] at z
      exact (Option.some.inj z).symm
    subst eo
    refine end_of (ns := ns) KX hns hb hbb hlim hg ha hr F hbind (H := fun _ => none) ⟨fun _ _ z => nomatch z⟩ (fun _ _ z => nomatch z) (fun _ _ z => nomatch z) (want _ (.inr ?_))
    exact ⟨_, vs.toArray, _, hk, rfl, rfl, rfl, by rw [List.size_toArray, hi.length]; exact hl, by simpa using rv⟩
  · have nk : K.lookup a = none := by
      cases q : K.lookup a with
      | none => rfl
      | some o => exact (hk ⟨o, q⟩).elim
    let H : Hp := fun b => if b = a then some (.frz { cls := .type "list", data := .seq vs.toArray } (.lst (ns.map V.int))) else none
    have at_a : H a = some (.frz { cls := .type "list", data := .seq vs.toArray } (.lst (ns.map V.int))) := if_pos rfl
    have al : Alone s1 a vs ns H := ⟨fun b u q => by
      by_cases eb : b = a
      · subst eb
        rw [at_a] at q
        exact ⟨rfl, (Option.some.inj q).symm⟩
      · rw [show H b = none from if_neg eb] at q
        cases q⟩
    refine end_of KX hns hb hbb hlim hg ha hr F hbind al (fun b u q => by rw [(al.one b u q).1]; exact nk) (fun b u q => ?_) (want H (.inl (.inr ⟨_, at_a⟩)))
    obtain ⟨rfl, rfl⟩ := al.one b u q
    exact ⟨ha, by rw [List.length_map]; exact hl, vs, _, rv, ha⟩
end

/-- the goal that the head leaves -/
theorem walkG {l : PySem.W.OpenLaw} {n k : Nat} {q : Program} {loose : List Str} {XP : (Str → Option Value) → Heap → Prop} {YP : World → Heap → Prop} {d : DefRec} {K : Params → PySem.W.Frag} {sp : PySem.W.Frag → Sp} {x : Str}
    (hn : l.most = some n) (hn2 : n ≤ sizeLine) (hdf : d.params.defaults = []) (hr : Room k callerA) (hY : ∀ (w : World) (h : Heap), YP w h → (K w.params).In h)
    (F : ∀ (w : World) (mg : Str → Option Value) (fa : Addr) (h : Heap), (K w.params).In h → h.Ns mainGlobals mg → mg d.name = some (.ref fa) →
      ∃ fd : FuncData, (∀ (s : Shared) (u : Value), BindsTo s fd ⟨[u], []⟩ [(x, u)]) ∧
        ∀ base : Heap, (K w.params).In base → base.Ns mainGlobals mg → FnG l.prog w (K w.params) mg base k fa fd [x] (sp (K w.params)))
    (want : ∀ (K : PySem.W.Frag) (H : Hp) (a : Addr) (ns : List Int), ns.length ≤ n → SqL K H a (ns.map V.int) → sp K [.ref a] H (fun v _ => v = .bl true) E0) :
    PySem.W.WalkO q loose XP YP l.row.toRowW d [] (fun f vs => PySem.call f vs) := by
  refine Att.attach_call hn hdf ?_
  intro w s₀ s₁ mg mb fa o pm cd doc a vs ns G Y _ _ _ hmg hobj hints hlen hg
  obtain ⟨fd, hb, hF⟩ := F w mg fa _ (hY w _ Y) G.T.g hmg
  exact law_endG (hY w _ Y) G.T.g G.T.b G.T.builtins G.T.nolimit hg hobj hints (Nat.le_trans hlen hn2) hr hF hb (fun H hS => want _ H a ns hlen hS)
end Nv
set_option Elab.async false
set_option linter.all false
set_option maxRecDepth 100000
set_option maxHeartbeats 4000000
/-! Data of any depth over the abstract heap; repr of them. -/
namespace Nv
open PySem PySem.Spec PyProof.Rows L2

mutual
/-- v is the datum d -/
inductive DV (H : Hp) : V → PyData → Prop
  | non : DV H .non .none
  | bl (b : Bool) : DV H (.bl b) (.bool b)
  | int (i : Int) : DV H (.int i) (.int i)
  | str (x : Str) : DV H (.str x) (.str x)
  | lst {a : Addr} {xs : List V} {ds : List PyData} (h : H a = some (.lst xs)) (r : DVs H xs ds) : DV H (.ref a) (.list ds)
  | tup {a : Addr} {xs : List V} {ds : List PyData} (h : H a = some (.tup xs)) (r : DVs H xs ds) : DV H (.ref a) (.tuple ds)
  | emp {a : Addr} (h : H a = some (.dK [])) : DV H (.ref a) (.dict [])
inductive DVs (H : Hp) : List V → List PyData → Prop
  | nil : DVs H [] []
  | cons {x : V} {xs : List V} {d : PyData} {ds : List PyData} (h : DV H x d) (r : DVs H xs ds) : DVs H (x :: xs) (d :: ds)
end

mutual
theorem DV.more {H H' : Hp} (k : Same H H') : ∀ {v : V} {d : PyData}, DV H v d → DV H' v d
  | _, _, .non => .non
  | _, _, .bl b => .bl b
  | _, _, .int i => .int i
  | _, _, .str x => .str x
  | _, _, .lst h r => .lst (k _ _ h) (r.more k)
  | _, _, .tup h r => .tup (k _ _ h) (r.more k)
  | _, _, .emp h => .emp (k _ _ h)
theorem DVs.more {H H' : Hp} (k : Same H H') : ∀ {vs : List V} {ds : List PyData}, DVs H vs ds → DVs H' vs ds
  | _, _, .nil => .nil
  | _, _, .cons h r => .cons (h.more k) (r.more k)
end

theorem DVs.length {H : Hp} : ∀ {vs : List V} {ds : List PyData}, DVs H vs ds → vs.length = ds.length
  | _, _, .nil => rfl
  | _, _, .cons _ r => by rw [List.length_cons, List.length_cons, r.length]
theorem DVs.at {H : Hp} : ∀ {vs : List V} {ds : List PyData}, DVs H vs ds → ∀ (i : Nat) (v : V), vs[i]? = some v → ∃ d, ds[i]? = some d ∧ DV H v d
  | _, _, .cons h r, 0, v, e => ⟨_, rfl, by cases e; exact h⟩
  | _, _, .cons h r, i + 1, v, e => r.at i v (by simpa using e)

theorem emp_reads {P : Program} {w : World} {H : Hp} {h : Heap} {a : Addr} {u : Value} (ok : HOk P w H h) (h1 : H a = some (.dK [])) (r : RelV (.ref a) u) : Reads h u (.dict []) [a] ∧ sysModules ∉ [a] := by
  obtain ⟨_, ns, vs, kv, o, es, ep, e, hx, hd, _, hp, _⟩ := ok a _ h1
  cases kv
  have ez : es.toList = [] := List.length_eq_zero_iff.mp hp.length
  rw [show u = Value.ref a from r]
  refine ⟨.dict (kvs := []) (as := []) (bs := []) e hx.1 hd (by rw [ez]; exact .nil) (by rw [ez]; exact .nil), fun z => ?_⟩
  rw [List.mem_singleton] at z
  rw [← z] at ns
  simp at ns

mutual
theorem DV.reads {P : Program} {w : World} {H : Hp} {h : Heap} (ok : HOk P w H h) : ∀ {v : V} {d : PyData} {u : Value}, DV H v d → RelV v u → ∃ as, Reads h u d as
  | _, _, u, .non, r => ⟨[], by rw [show u = Value.none from r]; exact .none⟩
  | _, _, u, .bl b, r => ⟨[], by rw [show u = Value.bool b from r]; exact .bool b⟩
  | _, _, u, .int i, ⟨t, e⟩ => ⟨[], by rw [e]; exact .int i t⟩
  | _, _, u, .str x, ⟨t, e⟩ => ⟨[], by rw [e]; exact .str x t⟩
  | _, _, u, .lst (a := a) (xs := xs) h1 q, r => by
    obtain ⟨_, its, n, rv, e⟩ := ok a _ h1
    obtain ⟨as, ra⟩ := q.reads ok rv
    refine ⟨a :: as, ?_⟩
    rw [show u = Value.ref a from r]
    exact .list e rfl rfl (by simpa using ra)
  | _, _, u, .tup (a := a) (xs := xs) h1 q, r => by
    obtain ⟨_, its, rv, o, e, hc, n, hd⟩ := ok a _ h1
    obtain ⟨as, ra⟩ := q.reads ok rv
    refine ⟨as, ?_⟩
    rw [show u = Value.ref a from r]
    exact .tuple e hc hd (by simpa using ra)
  | _, _, u, .emp (a := a) h1, r => ⟨_, (emp_reads ok h1 r).1⟩
theorem DVs.reads {P : Program} {w : World} {H : Hp} {h : Heap} (ok : HOk P w H h) : ∀ {vs : List V} {ds : List PyData} {us : List Value}, DVs H vs ds → Vals vs us → ∃ as, ReadsAll h us ds as
  | _, _, _, .nil, .nil => ⟨[], .nil⟩
  | _, _, _, .cons h1 q, .cons r rs => by
    obtain ⟨as, ra⟩ := h1.reads ok r
    obtain ⟨bs, rb⟩ := q.reads ok rs
    exact ⟨as ++ bs, .cons ra rb⟩
end

/-- what repr may be asked of -/
structure Nice (d : PyData) : Prop where
  shows : d.showable = true
  deep : d.depth ≤ 60
  long : d.shown.length ≤ sizeLine
  dic : d.hasDict = true → d = .dict []

theorem call_reprD {X : Cx} (gd : X.A.guards = some []) (hu : X.A.units + 100 < cLine) :
    CallR X (.builtin "repr") (fun xs H Q => ∃ v d, xs = [v] ∧ DV H v d ∧ Nice d ∧ Q (.str d.shown) H) := by
  rintro pins s σ H xs us Q I r ⟨v, d, rfl, dv, nz, q⟩
  cases r with
  | cons r0 rr =>
    cases rr
    rename_i u
    have fin : ∀ (h' : Heap) (t : Tok) (tk : Nat), (∀ b o, s.heap.get? b = some o → h'.get? b = some o) → EP X pins σ Q (.str d.shown t) { s with heap := h', toks := tk } :=
      fun h' t tk k => ⟨.str d.shown, H, I.kept (t' := tk) k, ⟨t, rfl⟩, q⟩
    have viaRef : ∀ (a : Addr) (as : List Addr), u = .ref a → Reads s.heap u d as → (d.hasDict = true → sysModules ∉ as) → wpAny (model X.prog X.w) X.A (call (.builtin "repr") [u]) (EP X pins σ Q) X.xe s := by
      rintro a as rfl rd hs
      exact repr_of_reads' rd nz.shows hs gd (by have := nz.deep; omega) (fun _ _ e => e) (fun h' t tk k => fin h' t tk k) nz.long
    have leaf : EP X pins σ Q (.str d.shown s.toks) { s with heap := s.heap, toks := s.toks + 1 } := fin s.heap s.toks (s.toks + 1) fun _ _ e => e
    obtain ⟨as, rd⟩ := dv.reads I.hok r0
    cases dv with
    | non =>
      cases (show u = Value.none from r0)
      exact P.repr_of_none (by simpa only [PyData.shown] using leaf)
    | bl b =>
      cases (show u = Value.bool b from r0)
      exact P.repr_of_bool (by simpa only [PyData.shown] using leaf)
    | int i =>
      obtain ⟨t, rfl⟩ := r0
      exact P.repr_of_int (by simpa [PyData.showable] using nz.shows) (by simpa only [PyData.shown] using leaf)
    | str x =>
      obtain ⟨t, rfl⟩ := r0
      exact P.repr_of_str (by simpa only [PyData.shown] using leaf) (by simpa only [PyData.shown] using nz.long)
    | lst h1 q1 => exact viaRef _ _ r0 rd fun z => nomatch nz.dic z
    | tup h1 q1 => exact viaRef _ _ r0 rd fun z => nomatch nz.dic z
    | @emp a h1 =>
      have z := emp_reads I.hok h1 r0
      exact viaRef _ _ r0 z.1 fun _ => z.2
end Nv
set_option Elab.async false
set_option linter.all false
set_option maxRecDepth 100000
set_option maxHeartbeats 16000000
namespace T1
open PySem PySem.Spec PyProof.Rows L2 Nv SX
/-! ### texts of walks, as lists of signs -/
def dig (c : Nat) : Bool := decide (48 ≤ c) && decide (c ≤ 57)
def val (w : List Nat) : Nat := NumText.digitsVal w
/-- a coordinate's text -/
def cwB (w : List Nat) : Bool := decide (w.length ≤ 2) && (w.all (· < 128) && ((decide (0 < w.length) && w.all Unicode.isDecimal) && (decide (TL.numL (val w) = w) && decide (val w ≤ 30))))
theorem dec128 : ∀ c : Fin 128, Unicode.isDecimal c.val = dig c.val := by decide +kernel
theorem dig_of {w : List Nat} (h1 : w.all (· < 128) = true) (h2 : w.all Unicode.isDecimal = true) : w.all dig = true := by
  rw [List.all_eq_true] at h1 h2 ⊢
  intro c hc
  have l := of_decide_eq_true (h1 c hc)
  have := dec128 ⟨c, l⟩
  rw [← this]
  exact h2 c hc
theorem cw_int {w : List Nat} (h1 : w.all (· < 128) = true) (h2 : w.all Unicode.isDecimal = true) (h0 : 0 < w.length) (hl : w.length ≤ 2) : intText? (S w) = some ((val w : Nat) : Int) :=
  int_S (dig_of h1 h2) (fun e => by rw [e] at h0; exact absurd h0 (by decide)) (by omega)
theorem cw31 : ∀ n : Fin 31, (cwB (TL.numL n.val) && decide (val (TL.numL n.val) = n.val)) = true := by decide +kernel
theorem cw_num {n : Nat} (h : n ≤ 30) : cwB (TL.numL n) = true ∧ val (TL.numL n) = n := by
  have := cw31 ⟨n, by omega⟩
  rw [Bool.and_eq_true, decide_eq_true_eq] at this
  exact this
theorem cw_of {w : List Nat} (h : cwB w = true) : TL.numL (val w) = w ∧ val w ≤ 30 ∧ intText? (S w) = some ((val w : Nat) : Int) ∧ w.length ≤ 2 := by
  unfold cwB at h
  simp only [Bool.and_eq_true, decide_eq_true_eq] at h
  obtain ⟨h1, h2, ⟨h3, h4⟩, h5, h6⟩ := h
  exact ⟨h5, h6, cw_int h2 h4 h3 h1, h1⟩
theorem cw_iff {w : List Nat} : cwB w = true ↔ ∃ n, n < 31 ∧ TL.numL n = w := by
  constructor
  · intro h
    obtain ⟨h1, h2, _⟩ := cw_of h
    exact ⟨val w, by omega, h1⟩
  · rintro ⟨n, hn, rfl⟩
    exact (cw_num (by omega)).1
def sxc (c : Nat) : Int := if c = 114 then 1 else if c = 108 then -1 else 0
def syc (c : Nat) : Int := if c = 117 then 1 else if c = 100 then -1 else 0
def dirc (c : Nat) : Bool := decide (c = 114) || (decide (c = 117) || (decide (c = 108) || decide (c = 100)))
abbrev Pt := Int × Int
def onP (p : Pt) : Bool := (decide (0 ≤ p.1) && decide (p.1 ≤ 30)) && (decide (0 ≤ p.2) && decide (p.2 ≤ 30))
def nxt (p : Pt) (c : Nat) : Pt := (p.1 + sxc c, p.2 + syc c)
/-- the points behind p -/
def path (p : Pt) : List Nat → List Pt
  | [] => []
  | c :: r => nxt p c :: path (nxt p c) r
/-- the signs are directions, and all points are on the paper -/
def walkIf (p : Pt) (q : List Nat) : Option (List Pt) := if q.all dirc = true then (if (p :: path p q).all onP = true then some (p :: path p q) else none) else none
def nums (u : List Nat) : Option Pt := match TL.spl [44] 0 [] u with
  | [a, b] => if cwB a = true then (if cwB b = true then some (((val a : Nat) : Int), ((val b : Nat) : Int)) else none) else none
  | _ => none
def parts (t : List Nat) : List Nat × List Nat := match TL.par [32] [] t with
  | some pq => pq
  | none => (t, [])
def walkOf (t : List Nat) : Option (List Pt) := match nums (parts t).1 with
  | none => none
  | some p => if 0 < (parts t).2.length ∧ (parts t).2.length < 401 then walkIf p (parts t).2 else none
/-- as the law reads -/
def dueOf (t : List Nat) : Option (List Pt) := match TL.spl [32] 0 [] t with
  | [u, q] => if q.length = 0 ∨ 400 < q.length then none else (match nums u with
    | none => none
    | some p => walkIf p q)
  | _ => none
theorem spl_pos : ∀ (s : List Nat) (l : List Nat) (k : Nat) (acc : List Nat), 1 ≤ (TL.spl s k acc l).length
  | s, [], k, acc => by rw [TL.spl_nil]; exact Nat.le_refl _
  | s, c :: r, 0, acc => by
    unfold TL.spl
    split
    · simp
    · exact spl_pos s r 0 _
  | s, c :: r, k + 1, acc => spl_pos s r k acc
theorem spl_one {c : Nat} {p : List Nat} (h : c ∉ p) : TL.spl [c] 0 [] p = [p] := by
  have := TL.spl_join (s := c) (S := []) (parts := [p]) (List.cons_ne_nil _ _) (fun x hx => by rw [List.mem_singleton.mp hx]; exact h)
  exact this
theorem cut_at {c : Nat} : ∀ {t : List Nat}, c ∈ t → ∃ p q, t = p ++ c :: q ∧ c ∉ p
  | [], h => nomatch h
  | d :: r, h => by
    by_cases e : d = c
    · exact ⟨[], r, by rw [e]; rfl, fun z => nomatch z⟩
    · have h2 : c ∈ r := by
        rcases List.mem_cons.mp h with z | z
        · exact absurd z.symm e
        · exact z
      obtain ⟨p, q, e1, n⟩ := cut_at h2
      refine ⟨d :: p, q, by rw [e1]; rfl, fun z => ?_⟩
      rcases List.mem_cons.mp z with z | z
      · exact e z.symm
      · exact n z
theorem par_cut {c : Nat} {p q : List Nat} (h : c ∉ p) : TL.par [c] [] (p ++ c :: q) = some (p, q) := par_head (sep := []) q h
theorem spl_cut {c : Nat} {p q : List Nat} (h : c ∉ p) : TL.spl [c] 0 [] (p ++ c :: q) = p :: TL.spl [c] 0 [] q := spl_free (sep := [c]) q (List.cons_ne_nil _ _) (free_head h)
theorem walkIf_no {p : Pt} {q : List Nat} (h : 32 ∈ q) : walkIf p q = none := by
  unfold walkIf
  rw [if_neg]
  intro z
  have := List.all_eq_true.mp z 32 h
  exact absurd this (by decide)
theorem due_is (t : List Nat) : dueOf t = walkOf t := by
  unfold dueOf walkOf parts
  by_cases h : 32 ∈ t
  · obtain ⟨p, q, rfl, n⟩ := cut_at h
    rw [par_cut n, spl_cut n]
    show _ = (match nums p with
      | none => none
      | some x => if 0 < q.length ∧ q.length < 401 then walkIf x q else none)
    by_cases h2 : 32 ∈ q
    · have : ∃ a b r, TL.spl [32] 0 [] q = a :: b :: r := by
        obtain ⟨p2, q2, rfl, n2⟩ := cut_at h2
        rw [spl_cut n2]
        have := spl_pos [32] q2 0 []
        cases e : TL.spl [32] 0 [] q2 with
        | nil =>
          rw [e] at this
          exact absurd this (by decide)
        | cons b r => exact ⟨p2, b, r, rfl⟩
      obtain ⟨a, b, r, e⟩ := this
      rw [e]
      show none = _
      cases nums p with
      | none => rfl
      | some x =>
        show none = if _ then walkIf x q else none
        rw [walkIf_no h2]
        split <;> rfl
    · rw [spl_one h2]
      show (if q.length = 0 ∨ 400 < q.length then none else match nums p with
        | none => none
        | some x => walkIf x q) = _
      by_cases l : q.length = 0 ∨ 400 < q.length
      · rw [if_pos l]
        cases nums p with
        | none => rfl
        | some x =>
          show none = if _ then walkIf x q else none
          rw [if_neg (by omega)]
      · rw [if_neg l]
        cases nums p with
        | none => rfl
        | some x =>
          show walkIf x q = if _ then walkIf x q else none
          rw [if_pos (by omega)]
  · rw [TL.par_none1 h, spl_one h]
    show none = _
    cases nums t with
    | none => rfl
    | some x =>
      show none = if 0 < ([] : List Nat).length ∧ ([] : List Nat).length < 401 then walkIf x [] else none
      rw [if_neg (by decide)]
def ptD (p : Pt) : PyData := .tuple [.int p.1, .int p.2]
def resD : Option (List Pt) → PyData
  | none => .none
  | some l => .tuple (l.map ptD)
end T1
set_option Elab.async false
set_option linter.all false
set_option maxRecDepth 100000
set_option maxHeartbeats 4000000
/-! self.__class__.__name__ of an exception of a class of the program. -/
namespace PySem.W
open PySem PySem.Calls PyProof.Rows PyProof.V PySem.Spec Builtin Builtin.ObjectAttr Builtin.Getset_descriptor
section
variable {prog : Program} {w : World} {A : Around} {E : Value → Shared → Prop} {s : Shared} {K : Frag} {x C : Addr} {ox : Obj} {od : Option Obj} {name : Str}

theorem nm_classE {expr : Bool} {gt : Option Value} {Q : Value → Shared → Prop} (X : K.In s.heap) (I : InstAt s.heap x ox C od) (hga : findIn K (.ref C) "__getattribute__" = some (some (.builtin "BaseException.__getattribute__"))) (hgt : findIn K (.ref C) "__getattr__" = some gt)
    (hsub : subIn K (.ref C) (.type "BaseException") = some true) (hf : findObj K C od "__class__" = some (.bind (.builtin "getset_descriptor.__get__") (.builtin "object.__class__"))) (hm : mroIn K C (.type "object") = some true)
    (h : Q (.ref C) { s with toks := s.toks + 1 }) : wpAny (model prog w) A (getAttr (.ref x) "__class__" expr) Q E s := by
  obtain ⟨hp, g, d, t, os⟩ := s
  have L0 := I.type (M := model prog w)
  have L1 := looks_findIn (M := model prog w) X hga
  have L2 := looks_findIn (M := model prog w) X hgt
  have L3 := looks_find (M := model prog w) X I hf
  have sub : Looks (model prog w) hp (isInstance (.ref x) (.type "BaseException")) true := L0.andThen (looks_subIn X hsub)
  have hx0 : (expr && onTheHeap (Value.builtin "BaseException.__getattribute__")) = false := by cases expr <;> rfl
  have hx2 : (Value.builtin "BaseException.__getattribute__" == Value.builtin "object.__getattribute__") = false := by decide +kernel
  have hx1 : (onTheHeap (Value.ref C) && Value.builtin "BaseException.__getattribute__" == Value.builtin "object.__getattribute__") = false := by rw [hx2]; rfl
  unfold getAttr getAttrBy
  refine wpAny_bind (wpAny_mkText (wpAny_holding (wpAny_bind (L0.at (wpAny_bind (L1.at ?_))))))
  show wpAny _ _ (if (onTheHeap (Value.ref C) && Value.builtin "BaseException.__getattribute__" == Value.builtin "object.__getattribute__") = true then _ else _) _ _ _
  rw [hx1, if_neg Bool.false_ne_true]
  unfold getAttrByItsOwn hookBefore
  refine wpAny_bind ?_
  rw [if_pos (show onTheHeap (Value.ref C) = true from rfl)]
  refine L2.at ?_
  refine wpAny_bind (wpAny_attempt (wpAny_holding ?_))
  unfold callGetattribute
  rw [hx0, if_neg Bool.false_ne_true]
  unfold boundAndCalled
  rw [PySem.F.excAttr_ValueError.ga.bind (.ref x)]
  refine wpAny_bind (wpAny_pure ?_)
  show wpAny _ _ (call (.builtin "BaseException.__getattribute__") [.ref x, .str "__class__" t]) _ _ _
  refine wpAny_call (codeAny_call_builtin PySem.F.excAttr_ValueError.ga.plain PySem.F.entry_bexc_ga ?_)
  refine @PySem.W.check_slot (model prog w) _ _ ⟨hp, g, d, t + 1, os⟩ "BaseException.__getattribute__" "BaseException" "__getattribute__" (.ref x) [.str "__class__" t] [] _ (by decide +kernel) (by decide +kernel) sub (PySem.F.args_bexc_ga (.ref x) (.str "__class__" t)) ?_
  unfold Builtin.«object.__getattribute__»
  refine wpAny_bind (wpAny_of_eq (a := ((Value.ref x : Value), [Value.str "__class__" t])) (by first | rfl | (simp only [slotArgs]; rfl)) ?_)
  refine wpAny_bind (wpAny_pure (wpAny_bind (L0.at (wpAny_bind (L3.at ?_)))))
  refine wpAny_bind (wpAny_holding (wpAny_call (class_get (s := ⟨hp, g, d, t + 1, os⟩) (ox := ox) (od := od) X I hm ?_)))
  refine wpAny_pure ?_
  show wpAny _ _ (handedOut (.ref C)) _ _ _
  rw [handedOut_of (show handedIn (.ref C) = true from rfl)]
  first | exact wpAny_pure h | exact wpAny_pure (wpAny_pure h)

theorem nm_dga (d tp : Value) (C : Addr) : descrGetArgs ⟨[d, .ref C, tp], []⟩ = pure (d, some (.ref C), given tp) := by kernel_rfl
/-- the text that a class keeps as its name -/
def nameIn (K : Frag) (C : Addr) : Option (Str × Tok) := match K.lookup C with
  | some o => (match o.slots[2]? with
    | some (some (Value.str x t)) => some (x, t)
    | _ => none)
  | none => none
theorem nm_slot {M : Model} {n : Str × Tok} {Q : Option Value → Shared → Prop} (X : K.In s.heap) (hn : nameIn K C = some n) (h : Q (some (.str n.1 n.2)) s) : wpAny M A (slotAt C 2) Q E s := by
  unfold nameIn at hn
  split at hn
  · rename_i o ho
    split at hn
    · rename_i x t hs
      cases hn
      unfold slotAt
      refine wpAny_bind (wpAny_loadPart (X _ _ ho) (wpAny_pure ?_))
      rw [hs]
      exact h
    · cases hn
  · cases hn
theorem nm_get {tp : Value} {n : Str × Tok} {R : Result → Shared → Prop} (X : K.In s.heap) (ht : Looks (model prog w) s.heap (typeOf (.ref C)) (.type "type")) (hn : nameIn K C = some n) (h : R (.ok (.ret (.str n.1 n.2))) s) :
    codeAny (model prog w) A (.call (.builtin "getset_descriptor.__get__") ⟨[.builtin "type.__name__", .ref C, tp], []⟩) R s := by
  obtain ⟨hh, g, dr, t, os⟩ := s
  have L0 := ht
  have L1 : Looks (model prog w) hh (isSubtype (.type "type") (.type "type")) true := Looks.of_pure (by rw [isSubtype_type]; kernel_rfl)
  refine codeAny_call_builtin KF.slot_gs.plain KF.entry_gs (KF.slot_gs.check _ _ _ _ _ _ _ _ ktyn_type (KF.args_gs _ _ _) ?_)
  unfold Builtin.«getset_descriptor.__get__» descrGet
  rw [nm_dga]
  refine wpAny_bind (wpAny_pure ?_)
  unfold descrGetter descrCheckInstance descrNameAndClass isInstance
  simp only [ktyn_owner]
  repeat lk
  refine ⟨Code.quiet_builtin _ (by decide +kernel), codeAny_builtin ktyn_entry ?_⟩
  unfold Builtin.«type.__name__» keptObject
  dsimp only
  refine wpAny_bind (nm_slot (K := K) X hn ?_)
  first
    | exact wpAny_pure h
    | exact wpAny_pure (wpAny_pure h)
    | exact wpAny_bind (wpAny_pure h)
    | exact wpAny_bind (wpAny_pure (wpAny_pure h))
    | exact wpAny_bind (wpAny_bind (wpAny_pure (wpAny_pure h)))
theorem nm_name {expr : Bool} {n : Str × Tok} {Q : Value → Shared → Prop} (X : K.In s.heap) (hr : readsIn K C (.type "type") = true) (ht : typeIn K (.ref C) = some (.type "type"))
    (e : findCls K (.ref C) (.type "type") "__name__" = some (.get (.builtin "getset_descriptor.__get__") (.builtin "type.__name__") (.ref C) (.type "type"))) (hn : nameIn K C = some n)
    (h : Q (.str n.1 n.2) { s with toks := s.toks + 1 }) : wpAny (model prog w) A (getAttr (.ref C) "__name__" expr) Q E s := by
  refine cls_read X hr e ?_
  show wpAny _ _ (do ret (← holding [Value.builtin "type.__name__"] (call (.builtin "getset_descriptor.__get__") [.builtin "type.__name__", .ref C, .type "type"]))) _ _ _
  refine wpAny_bind (wpAny_holding (wpAny_call (nm_get (K := K) (s := { s with toks := s.toks + 1 }) X (looks_typeIn X ht) hn ?_)))
  exact wpAny_pure (handed_on rfl h)
end
end PySem.W

namespace Nv
open PySem PySem.Spec PyProof.Rows L2
/-- what is asked of an exception class whose instances' class's name is read -/
structure NmC (K : PySem.W.Frag) (C : Addr) : Prop where
  ga : PySem.W.findIn K (.ref C) "__getattribute__" = some (some (.builtin "BaseException.__getattribute__"))
  gt : PySem.W.findIn K (.ref C) "__getattr__" = some none
  sb : PySem.W.subIn K (.ref C) (.type "BaseException") = some true
  cl : (PySem.W.clsIn K C).isSome = true
  cc : PySem.W.findIn K (.ref C) "__class__" = some (some (.builtin "object.__class__"))
  gs : PySem.W.specialIn K (.builtin "object.__class__") "__get__" = some (some (.builtin "getset_descriptor.__get__"))
  tk : PySem.W.takesIn K (.builtin "object.__class__") = some true
  ob : PySem.W.mroIn K C (.type "object") = some true
  rd : PySem.W.readsIn K C (.type "type") = true
  ty : PySem.W.typeIn K (.ref C) = some (.type "type")
  fc : PySem.W.findCls K (.ref C) (.type "type") "__name__" = some (.get (.builtin "getset_descriptor.__get__") (.builtin "type.__name__") (.ref C) (.type "type"))
  nm : ∃ n, PySem.W.nameIn K C = some n
section
variable {X : Cx} {e : Expr} {te : TE} {pos : Pos}
/-- o.__class__, o an exception of ours -/
theorem pe_xcls (he : PE X e te) (hb : attributeBase e "__class__" X.env (eval e X.env) = eval e X.env := by rfl) :
    PE X (.Attribute e "__class__" pos) (fun σ H Q => te σ H fun y H1 => ∃ (a C dx : Addr) (fs : List (Str × V)), y = .ref a ∧ NmC X.K C ∧ H1 a = some (exo a C (some dx)) ∧ H1 dx = some (exd dx fs) ∧ Q (.ref C) H1) := by
  constructor
  intro pins s σ H Q I h
  refine attr_of hb (thn (he.run pins s σ H _ I h) ?_)
  rintro u s1 ⟨y, H1, I1, ry, a, C, dx, fs, rfl, T, ha, hd, q⟩
  cases (show u = Value.ref a from ry)
  obtain ⟨t1, ho⟩ := exo_at I1.hok ha
  obtain ⟨mA, hns, rel⟩ := exd_at I1.hok hd
  obtain ⟨od, hod, look⟩ := lookIn_ns hns
  exact PySem.W.nm_classE (od := some od) I1.kIn ⟨ho, rfl, rfl, hod⟩ T.ga T.gt T.sb (PySem.W.findObj_dataE T.cl T.cc T.gs T.tk) T.ob ⟨V.ref C, H1, I1.tok _, rfl, q⟩
/-- C.__name__ -/
theorem pe_cname (he : PE X e te) (hb : attributeBase e "__name__" X.env (eval e X.env) = eval e X.env := by rfl) :
    PE X (.Attribute e "__name__" pos) (fun σ H Q => te σ H fun y H1 => ∃ C, y = .ref C ∧ NmC X.K C ∧ ∀ n, Q (.str n) H1) := by
  constructor
  intro pins s σ H Q I h
  refine attr_of hb (thn (he.run pins s σ H _ I h) ?_)
  rintro u s1 ⟨y, H1, I1, ry, C, rfl, T, q⟩
  cases (show u = Value.ref C from ry)
  obtain ⟨⟨n, tk⟩, hn⟩ := T.nm
  exact PySem.W.nm_name I1.kIn T.rd T.ty T.fc hn ⟨V.str n, H1, I1.tok _, ⟨tk, rfl⟩, q n⟩
end
end Nv
set_option Elab.async false
set_option linter.all false
set_option maxRecDepth 100000
set_option maxHeartbeats 4000000
/-! An own exception (its __init__ stores one field) as a value: made, its field read, its class asked. -/
namespace Nv
open PySem PySem.Spec PyProof.Rows L2

/-- the fields of an exception of ours -/
def xf (n : Str) (v : V) : List (Str × V) := [(("name" : Str), .str n), (("value" : Str), v)]
/-- the dict of an exception of ours, made of v -/
def XD (H : Hp) (dx : Addr) (v : V) : Prop := ∃ n, H dx = some (.xd (xf n v))
theorem XD.of {H : Hp} {dx : Addr} {n : Str} {v : V} : XD (upd H dx (.xd (xf n v))) dx v := ⟨n, upd_same⟩
theorem xf_value {n : Str} {v : V} : (xf n v).lookup ("value" : Str) = some v := rfl
theorem xf_name {n : Str} {v : V} : (xf n v).lookup ("name" : Str) = some (.str n) := rfl
/-- __init__(self, value): self.value = value; self.name = self.__class__.__name__ -/
def spIni (K : PySem.W.Frag) : Sp := fun vs H Q _ => ∃ (a C : Addr) (v : V), vs = [.ref a, v] ∧ OexC K C ∧ PySem.W.findIn K (.ref C) "value" = some none ∧ PySem.W.findIn K (.ref C) "name" = some none ∧ NmC K C ∧ H a = some (exo a C none) ∧
  ∀ dx n, H dx = none → dx ≠ a → Q .non (upd (upd H dx (exd dx (xf n v))) a (exo a C (some dx)))
theorem ini_heap {H : Hp} {a C dx : Addr} {n : Str} {v : V} (ne : dx ≠ a) : upd (upd (upd H dx (exd dx [(("value" : Str), v)])) a (exo a C (some dx))) dx (exd dx [(("name" : Str), .str n), (("value" : Str), v)])
    = upd (upd H dx (exd dx (xf n v))) a (exo a C (some dx)) := by
  funext b
  by_cases e1 : b = dx
  · subst e1
    rw [upd_same, upd_ne ne, upd_same]
    rfl
  · rw [upd_ne e1]
    by_cases e2 : b = a
    · rw [e2, upd_same, upd_same]
    · rw [upd_ne e2, upd_ne e2, upd_ne e1, upd_ne e1]

section
variable {X : Cx} {C fI : Addr} {k : Nat} {fd : FuncData} {x : Str} {p pos : Pos} {e : Expr} {te : TE}
/-- what is needed to make one -/
structure MkX (K : PySem.W.Frag) (C fI : Addr) : Prop where
  ox : OexC K C
  ini : PySem.W.findIn K (.ref C) "__init__" = some (some (.ref fI))
  tyI : PySem.W.typeIn K (.ref fI) = some (.type "function")
  nov : PySem.W.findIn K (.ref C) "value" = some none
  nof : PySem.W.findIn K (.ref C) "name" = some none
  nmc : NmC K C
/-- what stands behind C(e): the exception at a, its own dict at dx -/
def mkxQ (C : Addr) (Q : VK) (v : V) (H1 : Hp) : Prop := ∀ a dx n, H1 a = none → H1 dx = none → dx ≠ a → Q (.ref a) (upd (upd H1 dx (exd dx (xf n v))) a (exo a C (some dx)))
def mkxA (C : Addr) (Q : VK) : List V → Hp → Prop
  | [v], H1 => mkxQ C Q v H1
  | _, _ => False
/-- C(e) -/
theorem pe_mkx (T : MkX X.K C fI) (F1 : FnOk X.prog X.w X.K X.mg X.base CX0 k fI fd ["self", "value"] (spIni X.K)) (hr : Room (k + 1) X.A) (hb : Binds X.K fd ["self", "value"] []) (hg : Gl X x) (hm : X.mg x = some (.ref C)) (he : PE X e te)
    (hs : starEach (e :: []) X.env = (false, eval e X.env) :: starEach [] X.env := by rfl) (hpl : (backTo pos (starEach [] X.env)).any (·.1) = false := by rfl) (hdb : (x == ("__debug__" : Str)) = false := by decide) :
    PE X (.Call (.Name x p) [e] [] pos) (fun σ H Q => te σ H fun v H1 => mkxQ C Q v H1) := by
  constructor
  intro pins s σ H Q I h
  obtain ⟨nm, q, N, bs, bm, sn, sub, ab, col, dd, k0, k1, k2, k3, k5, hC, hbm⟩ := T.ox.cls
  have arg : PA X [e] (tCons te tNil) := pa_cons he pa_nil hs
  refine wpAny_Call_Name_kw (ld_glob I hg hm (PySem.W.callWith_K (h₀ := X.base) I.ok.mod.kin T.ox.kC (thn (arg.run pos pins s σ H (mkxA C Q) I h) ?_) hs hpl) hdb)
  rintro us ⟨hp, g, dr, tk, os⟩ ⟨vs, H1, I1, r1, q1⟩
  obtain ⟨v, rfl⟩ : ∃ v, vs = [v] := by
    rcases vs with _ | ⟨v, _ | ⟨_, _⟩⟩
    · exact q1.elim
    · exact ⟨v, rfl⟩
    · exact q1.elim
  have q2 : mkxQ C Q v H1 := q1
  refine ⟨I1.kIn, ?_⟩
  cases r1 with
  | cons rv rr =>
    cases rr
    rename_i u
    have h2 : ((hp.push (PySem.W.kdv_tup [u])).push (PySem.HandSPX.excO C hp.objs.size)).get? (hp.objs.size + 1) = some (PySem.HandSPX.excO C hp.objs.size) := by heap_get
    have new : hp.objs.size ≤ hp.objs.size + 1 := Nat.le_succ _
    have J := I1.laid (t' := tk) (a := hp.objs.size + 1) (o := exo (hp.objs.size + 1) C none) (h' := (hp.push (PySem.W.kdv_tup [u])).push (PySem.HandSPX.excO C hp.objs.size))
      (fun _ _ z => Heap.get?_push_of_some _ (Heap.get?_push_of_some _ z)) new (exo_ok h2)
    have nH : H1 (hp.objs.size + 1) = none := I1.hok.fresh new
    have want : spIni X.K [.ref (hp.objs.size + 1), v] (upd H1 (hp.objs.size + 1) (exo (hp.objs.size + 1) C none)) (fun z H2 => z = .non ∧ Q (.ref (hp.objs.size + 1)) H2) E0 := by
      refine ⟨_, C, v, rfl, T.ox, T.nov, T.nof, T.nmc, upd_same, fun dx n nd ne => ⟨rfl, ?_⟩⟩
      have nd1 : H1 dx = none := by rw [upd_ne ne] at nd; exact nd
      have z := q2 _ dx n nH nd1 ne
      have eh : upd (upd (upd H1 (hp.objs.size + 1) (exo (hp.objs.size + 1) C none)) dx (exd dx (xf n v))) (hp.objs.size + 1) (exo (hp.objs.size + 1) C (some dx))
          = upd (upd H1 dx (exd dx (xf n v))) (hp.objs.size + 1) (exo (hp.objs.size + 1) C (some dx)) := by
        funext b
        by_cases e1 : b = hp.objs.size + 1
        · rw [e1, upd_same, upd_same]
        · rw [upd_ne e1, upd_ne e1]
          by_cases e2 : b = dx
          · rw [e2, upd_same, upd_same]
          · rw [upd_ne e2, upd_ne e2, upd_ne e1]
      rw [eh]
      exact z
    refine wpAny_call (PySem.HandSPX.call_own F.excBase_ValueError (fun Y => PySem.HandSPX.refsVE_contains Y bm hbm) (I1.kIn _ _ hC) (PySem.W.looks_findIn I1.kIn T.ini) (fun self => PySem.W.bind_fn I1.kIn self T.tyI) (by show 1 ≤ sizeLine; decide) ?_)
    refine codeAny_mono (F1.run _ X.stack _ _ ⟨[.ref (hp.objs.size + 1), u], []⟩ [.ref (hp.objs.size + 1), u] [.ref (hp.objs.size + 1), v] _ E0 (hr.make C [u] []) (J.env0.make C [u] []) (hb _ [.ref (hp.objs.size + 1), u] J.kIn rfl) (.cons rfl (.cons rv .nil)) want) ?_
    rintro (z | (_ | _ | _ | r)) s' hz
    · exact hz.elim
    · exact hz.elim
    · exact hz.elim
    · exact hz.elim
    · obtain ⟨v', H', I3, rv', ev, q3⟩ := J.after hz
      subst ev
      exact ⟨rv', ⟨.ref (hp.objs.size + 1), H', I3, rfl, q3⟩⟩

/-- o.n, o such an exception -/
theorem pe_xval {n : Str} (he : PE X e te) (hb : attributeBase e n X.env (eval e X.env) = eval e X.env := by rfl) :
    PE X (.Attribute e n pos) (fun σ H Q => te σ H fun y H1 => ∃ (a C dx : Addr) (fs : List (Str × V)) (v : V), y = .ref a ∧ XfC X.K C ∧ PySem.W.findIn X.K (.ref C) n = some none ∧ H1 a = some (exo a C (some dx)) ∧ H1 dx = some (exd dx fs) ∧ fs.lookup n = some v ∧ Q v H1) := by
  constructor
  intro pins s σ H Q I h
  refine attr_of hb (thn (he.run pins s σ H _ I h) ?_)
  rintro u s1 ⟨y, H1, I1, ry, a, C, dx, fs, v, rfl, T, nn, ha, hd, hl, q⟩
  cases (show u = Value.ref a from ry)
  obtain ⟨t1, ho⟩ := exo_at I1.hok ha
  obtain ⟨mA, hns, rel⟩ := exd_at I1.hok hd
  obtain ⟨od, hod, look⟩ := lookIn_ns hns
  have rn := rel n
  rw [hl] at rn
  obtain ⟨r, hr, rr⟩ := rn.some_of
  exact HandSPX.exc_get I1.kIn ⟨ho, rfl, rfl, hod⟩ T.ga T.gg T.exC (PySem.W.findObj_own T.hdC nn rfl (by rw [look, hr])) (handed_of rr) ⟨v, H1, I1.tok _, rr, q⟩

/-- an exception of the class at C stands at a -/
inductive XIn (H : Hp) (a C : Addr) : Prop
  | mk (dx : Addr) (u : HO) (φ : Heap → Prop) (ha : H a = some (.ext φ)) (hφ : ∀ h, φ h → ∃ ox, h.get? a = some ox ∧ ox.cls = .ref C ∧ ox.dict = some dx ∧ PySem.W.notCls ox = true)
      (hd : H dx = some u) (hu : (∃ fs, u = exd dx fs) ∨ ∃ fs, u = .xd fs)
theorem XIn.inst {P : Program} {w : World} {H : Hp} {h : Heap} {a C : Addr} (x : XIn H a C) (ok : HOk P w H h) : ∃ ox od, PySem.W.InstAt h a ox C od := by
  obtain ⟨dx, u, φ, ha, hφ, hd, hu⟩ := x
  obtain ⟨ox, g, c, d, n⟩ := hφ h (ok a _ ha).1
  have : ∃ o, h.get? dx = some o := by
    rcases hu with ⟨fs, rfl⟩ | ⟨fs, rfl⟩
    · obtain ⟨mA, ⟨o, _, _, e, _⟩, _⟩ := exd_at ok hd
      exact ⟨o, e⟩
    · obtain ⟨mA, ⟨o, _, _, e, _⟩, _⟩ := ok dx _ hd
      exact ⟨o, e⟩
  obtain ⟨o, ho⟩ := this
  exact ⟨ox, some o, g, c, n, by rw [d]; exact ho⟩
theorem XIn.of_made {H : Hp} {a C dx : Addr} {fs : List (Str × V)} (ha : H a = some (exo a C (some dx))) (hd : H dx = some (exd dx fs)) : XIn H a C :=
  .mk dx _ _ ha (fun h ⟨t, e⟩ => ⟨_, e, rfl, rfl, rfl⟩) hd (.inl ⟨fs, rfl⟩)
theorem XIn.more {H H' : Hp} {a C : Addr} (k : Same H H') (x : XIn H a C) : XIn H' a C := by
  obtain ⟨dx, u, φ, ha, hφ, hd, hu⟩ := x
  exact .mk dx u φ (k _ _ ha) hφ (k _ _ hd) hu

/-- what isinstance asks of the class -/
structure XCls (K : PySem.W.Frag) (C : Addr) : Prop where
  cl : (PySem.W.clsIn K C).isSome = true
  ga : PySem.W.findIn K (.ref C) "__getattribute__" = some (some (.builtin "BaseException.__getattribute__"))
  gt : PySem.W.findIn K (.ref C) "__getattr__" = some none
  sb : PySem.W.subIn K (.ref C) (.type "BaseException") = some true
  cc : PySem.W.findIn K (.ref C) "__class__" = some (some (.builtin "object.__class__"))
  gs : PySem.W.specialIn K (.builtin "object.__class__") "__get__" = some (some (.builtin "getset_descriptor.__get__"))
  tk : PySem.W.takesIn K (.builtin "object.__class__") = some true
  ob : PySem.W.mroIn K C (.type "object") = some true
theorem call_isX : CallR X (.builtin "isinstance") (fun xs H Q => ∃ (a C : Addr) (c : V) (cv : Value) (b : Bool), xs = [.ref a, c] ∧ XIn H a C ∧ XCls X.K C ∧ ClsV c cv ∧ PySem.W.kitOne X.K (.ref C) cv = some b ∧ Q (.bl b) H) := by
  rintro pins s σ H xs us Q I r ⟨a, C, c, cv, b, rfl, x, T, k, hk, q⟩
  obtain ⟨ox, od, J⟩ := x.inst I.hok
  cases r with
  | cons ra rr =>
    cases rr with
    | cons rc rr =>
      cases rr
      rename_i u1 u2
      cases (show u1 = Value.ref a from ra)
      have e2 := k.eq rc
      subst e2
      exact PySem.W.kia_one (PySem.W.kitx_exc T.cl T.ga T.gt T.sb T.cc T.gs T.tk T.ob) I.kIn J hk (fun z => nomatch z) fun tk => ⟨.bl b, H, I.tok tk, rfl, q⟩
end
end Nv
set_option Elab.async false
set_option linter.all false
set_option maxRecDepth 100000
set_option maxHeartbeats 4000000
/-! try with several except clauses, each with a name or none. -/
namespace Nv
open PySem PySem.Spec PyProof.Rows L2

/-- a clause: its class, its name's slot, its suite's reading -/
abbrev Clause := Value × Option Nat × (Addr → Value → Option Addr → TS)
/-- behind a suite its name's slot is empty -/
def blank (D : Ends) (i : Nat) : Ends :=
  { nx := fun σ H => D.nx (σ.set i none) H, rt := D.rt, bk := fun σ H => D.bk (σ.set i none) H, ct := fun σ H => D.ct (σ.set i none) H }
/-- what the clauses wish -/
def wHds (K : PySem.W.Frag) (Wout : WX) (D : Ends) : List Clause → WX
  | [] => Wout
  | (c, i, ts) :: r => fun cls d σ H => ∃ b, PySem.W.exmOne K cls c = some b ∧
      (b = true → ∀ a, H a = none → match i with
        | none => ts a cls d D σ H
        | some j => ts a cls d (blank D j) (σ.set j (some (.ref a))) H) ∧
      (b = false → wHds K Wout D r cls d σ H)
/-- a suite keeps its reading, whatever exception it holds -/
def SuiteOk (X : Cx) (suite : List Stmt) (ts : Addr → Value → Option Addr → TS) : Prop :=
  ∀ (a : Addr) (oe : Obj) (cls : Value) (d : Option Addr) (pn : List (Addr × Obj)), Zc cls d oe → (∃ vs, oe.data = .fields vs) → X.base.get? a = none → PSs (X.suite a ((a, oe) :: pn)) suite (ts a cls d)
inductive Hds (X : Cx) : List ExceptHandler → List Clause → Prop
  | nil : Hds X [] []
  | bare {x : Str} {c : Value} {ts : Addr → Value → Option Addr → TS} {b₀ : Stmt} {suite : List Stmt} {p p' : Pos} {hds : List ExceptHandler} {l : List Clause}
      (nm : Names X x c) (su : SuiteOk X (b₀ :: suite) ts) (r : Hds X hds l) : Hds X (.ExceptHandler (some (.Name x p)) none (b₀ :: suite) p' :: hds) ((c, none, ts) :: l)
  | named {x n : Str} {i : Nat} {c : Value} {ts : Addr → Value → Option Addr → TS} {b₀ : Stmt} {suite : List Stmt} {p p' : Pos} {hds : List ExceptHandler} {l : List Clause}
      (nm : Names X x c) (hi : X.N[i]? = some n) (hl : X.env.kindOf n = some .local) (su : SuiteOk X (b₀ :: suite) ts) (r : Hds X hds l) :
      Hds X (.ExceptHandler (some (.Name x p)) (some n) (b₀ :: suite) p' :: hds) ((c, some i, ts) :: l)

section
variable {X : Cx} {pins : List (Addr × Obj)} {σ : L2.St} {H : Hp} {a : Addr} {cls : Value} {d : Option Addr} {B : Heap} {sI s : Shared}
/-- an exception stands caught -/
structure Caught (X : Cx) (pins : List (Addr × Obj)) (σ : L2.St) (H : Hp) (a : Addr) (cls : Value) (d : Option Addr) (B : Heap) (sI s : Shared) : Prop where
  inv0 : Inv X pins σ H sI
  gr : ∀ b o, sI.heap.get? b = some o → b ∉ frs X.stack → B.get? b = some o
  up : sI.heap.UpToSlots s.heap
  os : s.os = sI.os
  ag : AllBare s.gens
  na : H a = none
  fl : HandSPX.FlyingZ B (X.env :: X.outer) a (Zc cls d) s.heap
theorem Caught.inv (z : Caught X pins σ H a cls d B sI s) : Inv X pins σ H s := z.inv0.landed z.gr z.fl.1 z.up z.os z.ag
theorem Caught.again (z : Caught X pins σ H a cls d B sI s) {h : Heap} (fl : HandSPX.FlyingZ B (X.env :: X.outer) a (Zc cls d) h) (u : s.heap.UpToSlots h) : Caught X pins σ H a cls d B sI { s with heap := h } :=
  ⟨z.inv0, z.gr, z.up.trans u, z.os, z.ag, z.na, fl⟩
theorem Caught.apart (z : Caught X pins σ H a cls d B sI s) : a ∉ frs (X.env :: X.outer) := by
  obtain ⟨oe, vs, he, _, hd⟩ := z.fl.there
  intro hm
  obtain ⟨_, o, ho, nf⟩ := z.fl.2.2.1.mem hm
  rw [he] at ho
  cases ho
  exact nf _ hd
theorem Caught.notBase (z : Caught X pins σ H a cls d B sI s) : X.base.get? a = none := by
  cases q : X.base.get? a with
  | none => rfl
  | some o =>
    have h1 := (z.inv0.bs a o q).1
    have h2 : a ∉ frs X.stack := fun hm => by
      rcases List.mem_cons.mp (z.inv0.stkSub a hm) with e | hf
      · exact absurd (Nat.lt_of_lt_of_le (Heap.lt_size q) z.inv0.ok.bsz) (by rw [e]; exact Nat.not_lt.mpr z.inv0.ok.above)
      · exact z.inv0.ok.nofr q hf
    exact absurd (z.gr a o h1 h2) (by rw [z.fl.2.1]; exact fun y => nomatch y)
theorem Caught.suite (z : Caught X pins σ H a cls d B sI s) (hf : X.env.frame = some X.env.locals) :
    ∃ oe, s.heap.get? a = some oe ∧ Zc cls d oe ∧ (∃ vs, oe.data = .fields vs) ∧ Inv (X.suite a ((a, oe) :: (X.pn ++ pins))) [] σ H s := by
  obtain ⟨oe, vs, he, hz, hd⟩ := z.fl.there
  have ap := z.apart
  have e0 : frs (X.env :: X.outer) = X.env.locals :: frs X.outer := by
    unfold frs
    rw [List.filterMap_cons, hf]
  rw [e0] at ap
  exact ⟨oe, he, hz, ⟨vs, hd⟩, z.inv.suite he hd z.na (fun e => ap (by rw [e]; exact List.mem_cons_self)) fun hm => ap (List.mem_cons_of_mem _ hm)⟩

variable {Wout : WX} {D : Ends}
theorem handled_by (hs : X.stack = X.env :: X.outer) (hf : X.env.frame = some X.env.locals) (hN : X.N.Nodup) (tk : Takes X Wout) {hds : List ExceptHandler} {l : List Clause} (hh : Hds X hds l) :
    ∀ s, Caught X pins σ H a cls d B sI s → wHds X.K Wout D l cls d σ H → wpAny (model X.prog X.w) X.A (handleBy (.ref a) X.env hds) (SP X pins D) X.xe s := by
  have look : ∀ {s : Shared} {x : Str} {c : Value} {p : Pos} {R : Value → Shared → Prop} {E1 : Value → Shared → Prop}, Caught X pins σ H a cls d B sI s → Names X x c → R c s →
      wpAny (model X.prog X.w) (X.A.mark (some (.ref a))) (eval (.Name x p) X.env) R E1 s := by
    intro s x c p R E1 z nm q
    obtain ⟨oe, _, _, _, S⟩ := z.suite hf
    obtain ⟨g, nd, h | ⟨h, hv, nn⟩⟩ := nm
    · exact ld_glob (X := X.suite a ((a, oe) :: (X.pn ++ pins))) S g h q nd
    · exact ld_blt (X := X.suite a ((a, oe) :: (X.pn ++ pins))) S g h hv q nn nd
  have asks : ∀ {s : Shared} {c : Value} {b : Bool}, Caught X pins σ H a cls d B sI s → PySem.W.exmOne X.K cls c = some b →
      PySem.W.Looks (model X.prog X.w) s.heap (excMatches (.ref a) c) b := by
    intro s c b z e
    obtain ⟨oe, he, hz, _, _⟩ := z.suite hf
    exact PySem.W.exm_one (M := model X.prog X.w) z.inv.kIn (fun A' Q' E' s' k q => wpAny_typeOf_ref (k _ _ he) (by rw [hz.1]; exact q)) e
  have ok := fun (s : Shared) (z : Caught X pins σ H a cls d B sI s) => z.inv0.ok
  induction hh with
  | nil =>
    intro s z w
    obtain ⟨_, _, _, oe, vs, T, _, _, he, _, hd, h1, _⟩ := id z.fl
    have up : wpAny (model X.prog X.w) X.A (setFlight (.ref a) X.env.frame) (fun _ s4 => wpAny (model X.prog X.w) X.A (throw (.ref a) : Sem Flow) (SP X pins D) X.xe s4) X.xe s := by
      rw [hf]
      refine HandSPX.setFlight_upZ z.fl fun h4 held u4 => wpAny_throw (tk _ _ ?_)
      exact ⟨a, B, sI, pins, σ, H, cls, d, rfl, z.inv0, z.gr, z.up.trans u4, .inr (.inr (by rw [hs]; exact held)), z.na, z.os, z.ag, w⟩
    refine wpAny_handleBy_nil ?_
    unfold PySem.passOn
    refine wpAny_bind (wpAny_field he hd h1 ?_)
    rw [if_neg (by simp)]
    first | exact wpAny_bind up | exact wpAny_bind (wpAny_pure (wpAny_bind up))
  | bare nm su r ih =>
    intro s z w
    obtain ⟨b, e, yes, no⟩ := w
    refine wpAny_handleBy_cons (codeAny_handlers_test (look z nm ((asks z e).here ?_))) (by intro q; cases q)
    rcases b with _ | _
    · exact ih s z (no rfl)
    refine codeAny_handlers_suite (HandSPX.lands_againZ z.fl fun h4 fl4 u4 => ?_)
    obtain ⟨oe, he, hz, hv, S⟩ := (z.again fl4 u4).suite hf
    refine wpAny_mono ((su a oe cls d (X.pn ++ pins) hz hv z.notBase).run [] _ σ H D S (yes rfl a z.na)) ?_ fun _ _ y => y.elim
    rintro (_ | _ | _ | u) s6 q
    · obtain ⟨σ6, H6, S6, q6⟩ := q
      exact ⟨σ6, H6, S6.unsuite (ok s z), q6⟩
    · obtain ⟨σ6, H6, S6, q6⟩ := q
      exact ⟨σ6, H6, S6.unsuite (ok s z), q6⟩
    · obtain ⟨σ6, H6, S6, q6⟩ := q
      exact ⟨σ6, H6, S6.unsuite (ok s z), q6⟩
    · obtain ⟨v6, σ6, H6, S6, r6, q6⟩ := q
      exact ⟨v6, σ6, H6, S6.unsuite (ok s z), r6, q6⟩
  | named nm hi hl su r ih =>
    intro s z w
    obtain ⟨b, e, yes, no⟩ := w
    refine wpAny_handleBy_cons (codeAny_handlers_test (look z nm ((asks z e).here ?_))) (by intro q; cases q)
    rcases b with _ | _
    · exact ih s z (no rfl)
    refine codeAny_handlers_suite_as (HandSPX.lands_againZ z.fl fun h4 fl4 u4 => ?_)
    obtain ⟨oe, he, hz, hv, S⟩ := (z.again fl4 u4).suite hf
    refine store_ok (X := X.suite a ((a, oe) :: (X.pn ++ pins))) (v := .ref a) S hN hi (.inl hl) rfl (fun s5 S5 => ?_) (.inr hl)
    refine wpAny_mono ((su a oe cls d (X.pn ++ pins) hz hv z.notBase).run [] s5 _ H _ S5 (yes rfl a z.na)) ?_ fun _ _ y => y.elim
    have wipes : ∀ {σ6 : L2.St} {H6 : Hp} {s6 : Shared} {R : Shared → Prop} {p' : Pos}, Inv (X.suite a ((a, oe) :: (X.pn ++ pins))) [] σ6 H6 s6 → (∀ s7, Inv X pins (σ6.set _ none) H6 s7 → R s7) →
        wpAny (model X.prog X.w) X.A (do bindName X.env _ .none; unbindBehindTheSuite X.env _ p') (fun _ s7 => R s7) X.xe s6 := fun S6 q => gone_ok (S6.unsuite (ok s z)) hN hi hl q
    rintro (_ | _ | _ | u) s6 q
    · obtain ⟨σ6, H6, S6, q6⟩ := q
      exact wipes S6 fun s7 J => ⟨_, H6, J, q6⟩
    · obtain ⟨σ6, H6, S6, q6⟩ := q
      exact wipes S6 fun s7 J => ⟨_, H6, J, q6⟩
    · obtain ⟨σ6, H6, S6, q6⟩ := q
      exact wipes S6 fun s7 J => ⟨_, H6, J, q6⟩
    · obtain ⟨v6, σ6, H6, S6, r6, q6⟩ := q
      exact wipes S6 fun s7 J => ⟨v6, _, H6, J, r6, q6⟩
end

/-- try: body, then the clauses -/
theorem ps_try_hds {X : Cx} {body : List Stmt} {h₀ : ExceptHandler} {hds : List ExceptHandler} {l : List Clause} {pos : Pos} {tb : WX → TS} {Wout : WX}
    (hs : X.stack = X.env :: X.outer) (hf : X.env.frame = some X.env.locals) (hN : X.N.Nodup) (tk : Takes X Wout)
    (hb : ∀ (W : WX) (pn : List (Addr × Obj)) (xe : Value → Shared → Prop), Takes (X.tr pn xe) W → PassesOwn (model X.prog X.w) X.A X.env xe → PSs (X.tr pn xe) body (tb W))
    (hh : Hds X (h₀ :: hds) l) : PS X (.Try body (h₀ :: hds) [] [] pos) (fun D σ H => tb (wHds X.K Wout D l) D σ H) := by
  constructor
  intro pins s σ H D I h
  have ok := I.ok
  let xe : Value → Shared → Prop := fun e s1 => wpAny (model X.prog X.w) X.A (noteFrame e X.env) (fun _ s2 => wpAny (model X.prog X.w) X.A (setFlight e none) (fun _ s3 =>
    wpAny (model X.prog X.w) X.A (handleBy e X.env (h₀ :: hds)) (SP X pins D) X.xe s3) X.xe s2) X.xe s1
  have takes : Takes (X.tr (X.pn ++ pins) xe) (wHds X.K Wout D l) := by
    rintro u s' ⟨a, B, sI, pins', σ', H', cls, d, rfl, J', gr, up, sky, na, os, ag, w⟩
    have J : Inv X pins σ' H' sI := J'.ofTry ok
    rw [show (X.tr (X.pn ++ pins) xe).stack = X.env :: X.outer from hs] at sky
    refine Sky.land Zc.steady (by rw [ok.frames, hs]) hf sky fun h3 fl up3 => ?_
    exact handled_by hs hf hN tk hh _ ⟨J, gr, up.trans up3, os, ag, na, fl⟩ w
  refine wpAny_Try_except (wpAny_mono ((hb _ (X.pn ++ pins) xe takes PassesOwn.looking).run [] s σ H D (I.toTry _) h) ?_ fun _ _ y => y)
  rintro (_ | _ | _ | u) s1 q
  · obtain ⟨σ', H', J, q⟩ := q
    exact wpAny_execs_nil ⟨σ', H', J.ofTry ok, q⟩
  · obtain ⟨σ', H', J, q⟩ := q
    exact ⟨σ', H', J.ofTry ok, q⟩
  · obtain ⟨σ', H', J, q⟩ := q
    exact ⟨σ', H', J.ofTry ok, q⟩
  · obtain ⟨v, σ', H', J, r, q⟩ := q
    exact ⟨v, σ', H', J.ofTry ok, r, q⟩
end Nv
set_option Elab.async false
set_option linter.all false
set_option maxRecDepth 100000
set_option maxHeartbeats 4000000
/-! The same for exceptions that were raised where nothing is handled (their context is None, which the suites may use). -/
namespace NvN
open PySem PySem.Spec PyProof.Rows L2 Nv

/-- a suite keeps its reading, whatever exception it holds -/
def SuiteOk (X : Cx) (suite : List Stmt) (ts : Addr → Value → Option Addr → TS) : Prop :=
  ∀ (a : Addr) (oe : Obj) (cls : Value) (d : Option Addr) (pn : List (Addr × Obj)), L2N.Zn cls d oe → (∃ vs, oe.data = .fields vs) → X.base.get? a = none → PSs (X.suite a ((a, oe) :: pn)) suite (ts a cls d)
inductive Hds (X : Cx) : List ExceptHandler → List Clause → Prop
  | nil : Hds X [] []
  | bare {x : Str} {c : Value} {ts : Addr → Value → Option Addr → TS} {b₀ : Stmt} {suite : List Stmt} {p p' : Pos} {hds : List ExceptHandler} {l : List Clause}
      (nm : Names X x c) (su : SuiteOk X (b₀ :: suite) ts) (r : Hds X hds l) : Hds X (.ExceptHandler (some (.Name x p)) none (b₀ :: suite) p' :: hds) ((c, none, ts) :: l)
  | named {x n : Str} {i : Nat} {c : Value} {ts : Addr → Value → Option Addr → TS} {b₀ : Stmt} {suite : List Stmt} {p p' : Pos} {hds : List ExceptHandler} {l : List Clause}
      (nm : Names X x c) (hi : X.N[i]? = some n) (hl : X.env.kindOf n = some .local) (su : SuiteOk X (b₀ :: suite) ts) (r : Hds X hds l) :
      Hds X (.ExceptHandler (some (.Name x p)) (some n) (b₀ :: suite) p' :: hds) ((c, some i, ts) :: l)

section
variable {X : Cx} {pins : List (Addr × Obj)} {σ : L2.St} {H : Hp} {a : Addr} {cls : Value} {d : Option Addr} {B : Heap} {sI s : Shared}
/-- an exception stands caught -/
structure Caught (X : Cx) (pins : List (Addr × Obj)) (σ : L2.St) (H : Hp) (a : Addr) (cls : Value) (d : Option Addr) (B : Heap) (sI s : Shared) : Prop where
  inv0 : Inv X pins σ H sI
  gr : ∀ b o, sI.heap.get? b = some o → b ∉ frs X.stack → B.get? b = some o
  up : sI.heap.UpToSlots s.heap
  os : s.os = sI.os
  ag : AllBare s.gens
  na : H a = none
  fl : HandSPX.FlyingZ B (X.env :: X.outer) a (L2N.Zn cls d) s.heap
theorem Caught.inv (z : Caught X pins σ H a cls d B sI s) : Inv X pins σ H s := z.inv0.landed z.gr z.fl.1 z.up z.os z.ag
theorem Caught.again (z : Caught X pins σ H a cls d B sI s) {h : Heap} (fl : HandSPX.FlyingZ B (X.env :: X.outer) a (L2N.Zn cls d) h) (u : s.heap.UpToSlots h) : Caught X pins σ H a cls d B sI { s with heap := h } :=
  ⟨z.inv0, z.gr, z.up.trans u, z.os, z.ag, z.na, fl⟩
theorem Caught.apart (z : Caught X pins σ H a cls d B sI s) : a ∉ frs (X.env :: X.outer) := by
  obtain ⟨oe, vs, he, _, hd⟩ := z.fl.there
  intro hm
  obtain ⟨_, o, ho, nf⟩ := z.fl.2.2.1.mem hm
  rw [he] at ho
  cases ho
  exact nf _ hd
theorem Caught.notBase (z : Caught X pins σ H a cls d B sI s) : X.base.get? a = none := by
  cases q : X.base.get? a with
  | none => rfl
  | some o =>
    have h1 := (z.inv0.bs a o q).1
    have h2 : a ∉ frs X.stack := fun hm => by
      rcases List.mem_cons.mp (z.inv0.stkSub a hm) with e | hf
      · exact absurd (Nat.lt_of_lt_of_le (Heap.lt_size q) z.inv0.ok.bsz) (by rw [e]; exact Nat.not_lt.mpr z.inv0.ok.above)
      · exact z.inv0.ok.nofr q hf
    exact absurd (z.gr a o h1 h2) (by rw [z.fl.2.1]; exact fun y => nomatch y)
theorem Caught.suite (z : Caught X pins σ H a cls d B sI s) (hf : X.env.frame = some X.env.locals) :
    ∃ oe, s.heap.get? a = some oe ∧ L2N.Zn cls d oe ∧ (∃ vs, oe.data = .fields vs) ∧ Inv (X.suite a ((a, oe) :: (X.pn ++ pins))) [] σ H s := by
  obtain ⟨oe, vs, he, hz, hd⟩ := z.fl.there
  have ap := z.apart
  have e0 : frs (X.env :: X.outer) = X.env.locals :: frs X.outer := by
    unfold frs
    rw [List.filterMap_cons, hf]
  rw [e0] at ap
  exact ⟨oe, he, hz, ⟨vs, hd⟩, z.inv.suite he hd z.na (fun e => ap (by rw [e]; exact List.mem_cons_self)) fun hm => ap (List.mem_cons_of_mem _ hm)⟩

variable {Wout : WX} {D : Ends}
theorem handled_by (hs : X.stack = X.env :: X.outer) (hf : X.env.frame = some X.env.locals) (hN : X.N.Nodup) (tk : L2N.Takes X Wout) {hds : List ExceptHandler} {l : List Clause} (hh : Hds X hds l) :
    ∀ s, Caught X pins σ H a cls d B sI s → wHds X.K Wout D l cls d σ H → wpAny (model X.prog X.w) X.A (handleBy (.ref a) X.env hds) (SP X pins D) X.xe s := by
  have look : ∀ {s : Shared} {x : Str} {c : Value} {p : Pos} {R : Value → Shared → Prop} {E1 : Value → Shared → Prop}, Caught X pins σ H a cls d B sI s → Names X x c → R c s →
      wpAny (model X.prog X.w) (X.A.mark (some (.ref a))) (eval (.Name x p) X.env) R E1 s := by
    intro s x c p R E1 z nm q
    obtain ⟨oe, _, _, _, S⟩ := z.suite hf
    obtain ⟨g, nd, h | ⟨h, hv, nn⟩⟩ := nm
    · exact ld_glob (X := X.suite a ((a, oe) :: (X.pn ++ pins))) S g h q nd
    · exact ld_blt (X := X.suite a ((a, oe) :: (X.pn ++ pins))) S g h hv q nn nd
  have asks : ∀ {s : Shared} {c : Value} {b : Bool}, Caught X pins σ H a cls d B sI s → PySem.W.exmOne X.K cls c = some b →
      PySem.W.Looks (model X.prog X.w) s.heap (excMatches (.ref a) c) b := by
    intro s c b z e
    obtain ⟨oe, he, hz, _, _⟩ := z.suite hf
    exact PySem.W.exm_one (M := model X.prog X.w) z.inv.kIn (fun A' Q' E' s' k q => wpAny_typeOf_ref (k _ _ he) (by rw [hz.1]; exact q)) e
  have ok := fun (s : Shared) (z : Caught X pins σ H a cls d B sI s) => z.inv0.ok
  induction hh with
  | nil =>
    intro s z w
    obtain ⟨_, _, _, oe, vs, T, _, _, he, _, hd, h1, _⟩ := id z.fl
    have up : wpAny (model X.prog X.w) X.A (setFlight (.ref a) X.env.frame) (fun _ s4 => wpAny (model X.prog X.w) X.A (throw (.ref a) : Sem Flow) (SP X pins D) X.xe s4) X.xe s := by
      rw [hf]
      refine HandSPX.setFlight_upZ z.fl fun h4 held u4 => wpAny_throw (tk _ _ ?_)
      exact ⟨a, B, sI, pins, σ, H, cls, d, rfl, z.inv0, z.gr, z.up.trans u4, .inr (.inr (by rw [hs]; exact held)), z.na, z.os, z.ag, w⟩
    refine wpAny_handleBy_nil ?_
    unfold PySem.passOn
    refine wpAny_bind (wpAny_field he hd h1 ?_)
    rw [if_neg (by simp)]
    first | exact wpAny_bind up | exact wpAny_bind (wpAny_pure (wpAny_bind up))
  | bare nm su r ih =>
    intro s z w
    obtain ⟨b, e, yes, no⟩ := w
    refine wpAny_handleBy_cons (codeAny_handlers_test (look z nm ((asks z e).here ?_))) (by intro q; cases q)
    rcases b with _ | _
    · exact ih s z (no rfl)
    refine codeAny_handlers_suite (HandSPX.lands_againZ z.fl fun h4 fl4 u4 => ?_)
    obtain ⟨oe, he, hz, hv, S⟩ := (z.again fl4 u4).suite hf
    refine wpAny_mono ((su a oe cls d (X.pn ++ pins) hz hv z.notBase).run [] _ σ H D S (yes rfl a z.na)) ?_ fun _ _ y => y.elim
    rintro (_ | _ | _ | u) s6 q
    · obtain ⟨σ6, H6, S6, q6⟩ := q
      exact ⟨σ6, H6, S6.unsuite (ok s z), q6⟩
    · obtain ⟨σ6, H6, S6, q6⟩ := q
      exact ⟨σ6, H6, S6.unsuite (ok s z), q6⟩
    · obtain ⟨σ6, H6, S6, q6⟩ := q
      exact ⟨σ6, H6, S6.unsuite (ok s z), q6⟩
    · obtain ⟨v6, σ6, H6, S6, r6, q6⟩ := q
      exact ⟨v6, σ6, H6, S6.unsuite (ok s z), r6, q6⟩
  | named nm hi hl su r ih =>
    intro s z w
    obtain ⟨b, e, yes, no⟩ := w
    refine wpAny_handleBy_cons (codeAny_handlers_test (look z nm ((asks z e).here ?_))) (by intro q; cases q)
    rcases b with _ | _
    · exact ih s z (no rfl)
    refine codeAny_handlers_suite_as (HandSPX.lands_againZ z.fl fun h4 fl4 u4 => ?_)
    obtain ⟨oe, he, hz, hv, S⟩ := (z.again fl4 u4).suite hf
    refine store_ok (X := X.suite a ((a, oe) :: (X.pn ++ pins))) (v := .ref a) S hN hi (.inl hl) rfl (fun s5 S5 => ?_) (.inr hl)
    refine wpAny_mono ((su a oe cls d (X.pn ++ pins) hz hv z.notBase).run [] s5 _ H _ S5 (yes rfl a z.na)) ?_ fun _ _ y => y.elim
    have wipes : ∀ {σ6 : L2.St} {H6 : Hp} {s6 : Shared} {R : Shared → Prop} {p' : Pos}, Inv (X.suite a ((a, oe) :: (X.pn ++ pins))) [] σ6 H6 s6 → (∀ s7, Inv X pins (σ6.set _ none) H6 s7 → R s7) →
        wpAny (model X.prog X.w) X.A (do bindName X.env _ .none; unbindBehindTheSuite X.env _ p') (fun _ s7 => R s7) X.xe s6 := fun S6 q => gone_ok (S6.unsuite (ok s z)) hN hi hl q
    rintro (_ | _ | _ | u) s6 q
    · obtain ⟨σ6, H6, S6, q6⟩ := q
      exact wipes S6 fun s7 J => ⟨_, H6, J, q6⟩
    · obtain ⟨σ6, H6, S6, q6⟩ := q
      exact wipes S6 fun s7 J => ⟨_, H6, J, q6⟩
    · obtain ⟨σ6, H6, S6, q6⟩ := q
      exact wipes S6 fun s7 J => ⟨_, H6, J, q6⟩
    · obtain ⟨v6, σ6, H6, S6, r6, q6⟩ := q
      exact wipes S6 fun s7 J => ⟨v6, _, H6, J, r6, q6⟩
end

/-- try: body, then the clauses -/
theorem ps_try_hds {X : Cx} {body : List Stmt} {h₀ : ExceptHandler} {hds : List ExceptHandler} {l : List Clause} {pos : Pos} {tb : WX → TS} {Wout : WX}
    (hs : X.stack = X.env :: X.outer) (hf : X.env.frame = some X.env.locals) (hN : X.N.Nodup) (tk : L2N.Takes X Wout)
    (hb : ∀ (W : WX) (pn : List (Addr × Obj)) (xe : Value → Shared → Prop), L2N.Takes (X.tr pn xe) W → PassesOwn (model X.prog X.w) X.A X.env xe → PSs (X.tr pn xe) body (tb W))
    (hh : Hds X (h₀ :: hds) l) : PS X (.Try body (h₀ :: hds) [] [] pos) (fun D σ H => tb (wHds X.K Wout D l) D σ H) := by
  constructor
  intro pins s σ H D I h
  have ok := I.ok
  let xe : Value → Shared → Prop := fun e s1 => wpAny (model X.prog X.w) X.A (noteFrame e X.env) (fun _ s2 => wpAny (model X.prog X.w) X.A (setFlight e none) (fun _ s3 =>
    wpAny (model X.prog X.w) X.A (handleBy e X.env (h₀ :: hds)) (SP X pins D) X.xe s3) X.xe s2) X.xe s1
  have takes : L2N.Takes (X.tr (X.pn ++ pins) xe) (wHds X.K Wout D l) := by
    rintro u s' ⟨a, B, sI, pins', σ', H', cls, d, rfl, J', gr, up, sky, na, os, ag, w⟩
    have J : Inv X pins σ' H' sI := J'.ofTry ok
    rw [show (X.tr (X.pn ++ pins) xe).stack = X.env :: X.outer from hs] at sky
    refine L2N.Sky.land L2N.Zn.steady (by rw [ok.frames, hs]) hf sky fun h3 fl up3 => ?_
    exact handled_by hs hf hN tk hh _ ⟨J, gr, up.trans up3, os, ag, na, fl⟩ w
  refine wpAny_Try_except (wpAny_mono ((hb _ (X.pn ++ pins) xe takes PassesOwn.looking).run [] s σ H D (I.toTry _) h) ?_ fun _ _ y => y)
  rintro (_ | _ | _ | u) s1 q
  · obtain ⟨σ', H', J, q⟩ := q
    exact wpAny_execs_nil ⟨σ', H', J.ofTry ok, q⟩
  · obtain ⟨σ', H', J, q⟩ := q
    exact ⟨σ', H', J.ofTry ok, q⟩
  · obtain ⟨σ', H', J, q⟩ := q
    exact ⟨σ', H', J.ofTry ok, q⟩
  · obtain ⟨v, σ', H', J, r, q⟩ := q
    exact ⟨v, σ', H', J.ofTry ok, r, q⟩
end NvN
set_option Elab.async false
set_option linter.all false
set_option maxRecDepth 100000
set_option maxHeartbeats 4000000
/-! Within an except suite: a list comprehension over a range. -/
namespace Nv
open PySem PySem.Spec PyProof.Rows L2

/-- a block that bears the pins of its def -/
abbrev blkP (X : Cx) (s : Shared) (H : Hp) (scope : Scope) (ce : Env) (fp : List Addr) : Cx := { X.blk s H scope ce fp with pn := X.pn }
section
variable {X : Cx} {pins : List (Addr × Obj)} {σ : L2.St} {H : Hp} {s s' : Shared} {scope : Scope} {ce : Env} {fp : List Addr} {S0 : Shared} {H0 : Hp}
theorem Inv.bear (J : Inv (X.blk S0 H0 scope ce fp) [] σ H s) (pp : ∀ p ∈ X.pn, s.heap.get? p.1 = some p.2 ∧ H p.1 = none ∧ p.1 ≠ ce.locals ∧ p.1 ∉ frs X.stack ∧ ∀ v, p.2.data ≠ .cell v) : Inv (blkP X S0 H0 scope ce fp) [] σ H s := by
  have o := J.ok
  have o' : (blkP X S0 H0 scope ce fp).Ok := { mod := o.mod, kind := o.kind, glob := o.glob, blt := o.blt, above := o.above, inj := o.inj, has := o.has, cab := o.cab, hd := o.hd, frames := o.frames, stk := o.stk, exf := o.exf, bs := o.bs, bsz := o.bsz, noex := o.noex, exfs := o.exfs, funs := o.funs, frf := o.frf }
  exact { ok := o', os := J.os, bare := J.bare, base := J.base, loc := J.loc, cell := J.cell, free := J.free, freeC := J.freeC, pin := fun p hp => pp p (by simpa using hp), hok := J.hok, len := J.len }
end

theorem pe_lcHot {X : Cx} {elt tg iter : Expr} {scope : Scope} {own : List (Str × Nat)} {pos : Pos} {wi : TI} {g : TG} {te : TE} (hot : L2H.HotC X) (hN : X.N.Nodup) (hi : L2H.PIH X tg iter wi) (bk : BlkOk X.N X.env.scope scope own)
    (hg : ∀ (s : Shared) (H : Hp) (C : Addr) (cl : List (Str × Addr)) (fp : List Addr), PG (blkP X s H scope (compEnvC scope cl C X.env) fp) tg g)
    (he : ∀ (s : Shared) (H : Hp) (C : Addr) (cl : List (Str × Addr)) (fp : List Addr), PE (blkP X s H scope (compEnvC scope cl C X.env) fp) elt te) (hs : ∀ x, foldedSetIterable iter X.env x = pure x := by intro _; rfl) :
    PE X (.ListComp elt [⟨tg, iter, [], 0⟩] scope pos) (tLc wi g tYes te (own.map (·.2))) := by
  constructor
  intro pins s σ H Q I h
  rw [eval_ListComp]
  have caps : ∀ y ∈ scope.names, y.2 = .free → ∃ c, X.env.cells.lookup y.1 = some c := by
    intro y hy e
    rcases bk.free y hy e with z | z
    · exact I.ok.has _ (.inl z)
    · exact I.ok.has _ (.inr z)
  refine wpAny_comprehension_free rfl hs (closure_ok caps) bk.kind (fun y hy e => by rw [bk.uniq y hy, e]) (thn (hi.run pins s σ H _ I h) fun _ s1 hx => thn hx ?_)
  rintro itv s2 ⟨it, fp, tn, J, H2, rfl, I2, T, st2, f2, q⟩
  refine wpAny_newObj_type (newEnv_comp ?_) (by show 0 ≤ sizeLine; decide)
  -- the new list stands at D, the block's names at C
  obtain ⟨D, hD⟩ : ∃ D, D = s2.heap.objs.size := ⟨_, rfl⟩
  rw [← hD]
  have nD : H2 D = none := I2.hok.fresh (Nat.le_of_eq hD.symm)
  obtain ⟨W, ⟨m0, w0⟩, turn⟩ := q D nD
  obtain ⟨s3, hs3⟩ : ∃ s3 : Shared, s3 = { s2 with heap := s2.heap.push { cls := .type "list", data := .seq ([] : List Value).toArray } } := ⟨_, rfl⟩
  rw [← hs3]
  have k23 : ∀ b o, s2.heap.get? b = some o → s3.heap.get? b = some o := fun b o e => by rw [hs3]; exact Heap.get?_push_of_some _ e
  have I3 : Inv X pins σ (upd H2 D (.lst [])) s3 := by
    rw [hs3]
    refine I2.laid (t' := s2.toks) (fun b o e => Heap.get?_push_of_some _ e) (Nat.le_of_eq hD.symm) ⟨Nat.zero_le _, [], 0, .nil, ?_⟩
    rw [hD]
    exact Heap.get?_push_size _ rfl
  have old : ∀ b ∈ fp, b < s2.heap.objs.size := fun b hb => let ⟨_, e, _⟩ := T.obj _ _ st2 b hb; Heap.lt_size e
  have f3 : ∀ b ∈ fp, FpOk X pins (upd H2 D (.lst [])) b ∧ b < s3.heap.objs.size := by
    intro b hb
    obtain ⟨g0, g1⟩ := f2 b hb
    refine ⟨⟨?_, g1⟩, ?_⟩
    · rw [upd_ne (by rw [hD]; exact Nat.ne_of_lt (old b hb))]
      exact g0
    · rw [hs3]
      show b < (s2.heap.push _).objs.size
      rw [Heap.size_push]
      exact Nat.lt_succ_of_lt (old b hb)
  have st3 : tn 0 s3.heap := T.keep _ _ _ st2 fun b _ o e => k23 b o e
  obtain ⟨H3, hH3⟩ : ∃ H3 : Hp, H3 = upd H2 D (.lst []) := ⟨_, rfl⟩
  rw [← hH3] at I3 f3 w0
  have I4 := block_start I3 bk hN f3
  have pg := hg s3 H3 s3.heap.objs.size (cellsFrom (s3.heap.objs.size + 1) scope.names (cloFrom X.env.cells scope.names [])) fp
  have pe := he s3 H3 s3.heap.objs.size (cellsFrom (s3.heap.objs.size + 1) scope.names (cloFrom X.env.cells scope.names [])) fp
  show codeAny _ _ (.compStart (.ListComp elt [⟨tg, iter, [], 0⟩] scope pos) 0 (.ref it) (.ref D) (compEnvC scope (cellsFrom (s3.heap.objs.size + 1) scope.names (cloFrom X.env.cells scope.names [])) s3.heap.objs.size X.env))
    (compPost (model X.prog X.w) X.A X.xe none (EP X pins σ Q) (.ref D) s3.heap.objs.size) { s3 with heap := pushCells (s3.heap.push { cls := .type "dict", data := .dict #[] }) scope.names }
  obtain ⟨ce, hce⟩ : ∃ ce, ce = compEnvC scope (cellsFrom (s3.heap.objs.size + 1) scope.names (cloFrom X.env.cells scope.names [])) s3.heap.objs.size X.env := ⟨_, rfl⟩
  rw [← hce] at I4 pg pe ⊢
  have cL : ce.locals = s3.heap.objs.size := by rw [hce]; rfl
  obtain ⟨s4, hs4⟩ : ∃ s4 : Shared, s4 = { s3 with heap := pushCells (s3.heap.push { cls := .type "dict", data := .dict #[] }) scope.names } := ⟨_, rfl⟩
  rw [← hs4] at I4 ⊢
  have k34 : ∀ b o, s3.heap.get? b = some o → s4.heap.get? b = some o := fun b o e => by rw [hs4]; exact pushCells_keeps _ _ _ _ (Heap.get?_push_of_some _ e)
  have I5 : Inv (blkP X s3 H3 scope ce fp) [] (wipe σ (own.map (·.2))) H3 s4 := by
    refine Inv.bear I4 fun p hp => ?_
    obtain ⟨e1, e2, e3, e4, e5⟩ := I3.pin p (List.mem_append_left _ hp)
    refine ⟨k34 _ _ e1, e2, ?_, fun hm => ?_, e5⟩
    · rw [cL]
      exact Nat.ne_of_lt (Heap.lt_size e1)
    · rcases List.mem_cons.mp (I3.stkSub _ hm) with z | z
      · exact e3 z
      · exact e4 z
  have hotB : L2H.HotC (blkP X s3 H3 scope ce fp) := hot
  have st4 : tn 0 s4.heap := T.keep _ _ _ st3 fun b _ o e => k34 b o e
  have steady : ∀ {σ' : L2.St} {H' : Hp} {s' : Shared}, Inv (blkP X s3 H3 scope ce fp) [] σ' H' s' → (∀ b ∈ fp, H' b = none) → ∀ b ∈ fp, FpOk (blkP X s3 H3 scope ce fp) [] H' b := by
    intro σ' H' s' Z hn b hb
    refine ⟨hn b hb, (Z.ok.exf b hb).1, Z.ok.exfs b hb, .inl hb, fun x c e => (Z.ok.exf b hb).2 x c e, fun p hp => ?_⟩
    obtain ⟨_, _, _, _, _, last⟩ := (f3 b hb).1
    exact last p (List.mem_append_left _ (by simpa using hp))
  have loop : codeAny (model X.prog X.w) X.A (.compLoop (.ListComp elt [⟨tg, iter, [], 0⟩] scope pos) 0 (.ref it) (.ref D) ce) (compPost (model X.prog X.w) X.A X.xe none (EP X pins σ Q) (.ref D) s3.heap.objs.size) s4 := by
    refine compLoop_any (fun n z => ∃ i H', Inv (blkP X s3 H3 scope ce fp) [] (wipe σ (own.map (·.2))) H' z ∧ tn i z.heap ∧ (∀ b ∈ fp, H' b = none) ∧ W i n H') ?_ m0 ⟨0, H3, I5, st4, fun b hb => (f3 b hb).1.1, w0⟩
    rintro n s5 ⟨i, H5, J5, st5, n5, w5⟩
    rcases turn i n H5 w5 with ⟨stop, ends⟩ | ⟨go, Nx, hNx, step⟩
    · refine thnF (T.done (blkP X s3 H3 scope ce fp) rfl rfl rfl hotB i [] s5 _ H5 (fun _ _ => False) J5 (steady J5 n5) st5 stop) ?_
      rintro r s6 ⟨rfl, J6⟩
      have J7 : Inv X pins σ H5 s6 := I3.call' (ch := fp) J6.os J6.base J6.hok J6.bare fun b hb => by
        obtain ⟨_, z1, _, z3, z4, z5⟩ := (f3 b hb).1
        exact ⟨z3, z1, z4, z5⟩
      have fC : H5 s3.heap.objs.size = none := by
        have z : H5 ce.locals = none := J6.free
        rwa [cL] at z
      obtain ⟨m, hn, _⟩ := J6.loc
      have hn' : s6.heap.Ns ce.locals m := hn
      rw [cL] at hn'
      obtain ⟨y0, y1, y2, y3, y4, y5⟩ := I3.fpOk (H' := H5) (Nat.le_refl _) fC
      exact ⟨m, hn', fun h'' sb => ⟨.ref D, H5, J7.turned (t' := s6.toks) (fun b o hb e => (sb.2 b hb).trans e) y0 y1 y3 y4 y5, rfl, ends⟩⟩
    · refine thnF (T.item (blkP X s3 H3 scope ce fp) rfl rfl rfl hotB i [] s5 _ H5 (fun _ _ => False) J5 (steady J5 n5) st5 go) ?_
      rintro r s6 ⟨u, rfl, h6⟩
      refine thnF h6 ?_
      rintro _ s7 ⟨x, H7, J7, r7, y7, st7, n7⟩
      have P7 := J7.pinned (steady J7 n7) (T.obj _ _ st7)
      refine thnF (pg.run _ s7 _ H7 x u _ P7 r7 (step x H7 y7)) ?_
      rintro _ s8 ⟨σ8, H8, J8, same8, q8⟩
      refine thnF (wpAny_tests_nil (Q := fun (b : Bool) z => b = true ∧ z = s8) ⟨rfl, rfl⟩) ?_
      rintro b s9 ⟨rfl, rfl⟩
      have q9 : te σ8 H8 _ := q8
      rw [if_pos rfl]
      refine thnF (pe.run _ _ σ8 H8 _ J8 q9) ?_
      rintro z s10 ⟨yv, H10, J10, r10, acc, hD10, hz10, nx⟩
      refine app_ok (X := blkP X s3 H3 scope ce fp) J10 hD10 hz10 r10 fun s11 J11 => ?_
      obtain ⟨m', hm, w'⟩ := hNx _ nx
      have pinB : ∀ b ∈ fp, ∀ o, s7.heap.get? b = some o → s11.heap.get? b = some o ∧ (upd H10 D (.lst (acc ++ [yv]))) b = none := fun b hb o e =>
        let z := J11.pin (b, o) (List.mem_append_right _ (List.mem_append_right _ (mem_pinsAt hb e)))
        ⟨z.1, z.2.1⟩
      refine ⟨m', hm, i + 1, _, (J11.unpinned (pins := [])).weak (by rw [← same8, wipe_length]) (fun j v e => ?_), T.keep _ _ _ st7 fun b hb o e => (pinB b hb o e).1, fun b hb => ?_, w'⟩
      · rw [← same8] at e
        exact (wipe_some e).1
      · obtain ⟨o, e, _⟩ := T.obj _ _ st7 b hb
        exact (pinB b hb o e).2
  exact codeAny_compStart_list loop (T.self X.A 0 _ _ _ st4 loop)
end Nv
set_option Elab.async false
set_option linter.all false
set_option maxRecDepth 100000
set_option maxHeartbeats 4000000
/-! A def that may be called anywhere, within an except suite too; there its argument may be the exception that is handled. -/
namespace Nv
open PySem PySem.Spec PyProof.Rows L2

/-- the context of such a def's body -/
abbrev cxA (P : Program) (w : World) (K : PySem.W.Frag) (mg : Str → Option Value) (base : Heap) (N : List Str) (qual : Str) (scope : Scope) (f : Addr) (cd : Value) (A : Around) (outer : List Env) (s : Shared) (H : Hp) : Cx :=
  { cxOf CX0 P w K mg base N qual scope f cd A outer s H E0 with calm := false, xe := fun _ _ => False }
structure FnA (P : Program) (w : World) (K : PySem.W.Frag) (mg : Str → Option Value) (base : Heap) (k : Nat) (f : Addr) (fd : FuncData) (ps : List Str) (sp : Sp) : Prop where
  many : ∀ vs H Q E, sp vs H Q E → vs.length = ps.length
  does : ∀ (A : Around) (outer : List Env) (s : Shared) (H : Hp) (ar : Args) (us : List Value) (vs : List V) (Q : VK),
    L2H.RoomH k A → Env0 P w K mg base A outer s H → BindsTo s fd ar (ps.zip us) → Vals vs us → sp vs H Q E0 →
    codeAny (model P w) A (.call (.ref f) ar) (CR CX0 outer P w H s Q E0) s

section
variable {P : Program} {w : World} {K : PySem.W.Frag} {mg : Str → Option Value} {base : Heap}
theorem FnA.made {x qual : Str} {st : Stmt} {f : Addr} {fd : FuncData} {N ps : List Str} {k : Nat} {sp : Sp} (F : Fun K x qual st f fd) (S : FnScope N ps (defScope st))
    (many : ∀ vs H Q E, sp vs H Q E → vs.length = ps.length)
    (body : ∀ (cdv : Value) (A : Around) (outer : List Env) (s : Shared) (H : Hp) (vs : List V) (Q : VK),
      L2H.RoomH k (A.deeper (envOfC qual (defScope st) s.heap.objs.size f cdv)) → sp vs H Q E0 →
      ∃ t, PSs (cxA P w K mg base N qual (defScope st) f cdv A outer s H) (defBody st) t ∧ t { nx := fun _ H' => Q .non H', rt := Q } (start N vs) H) :
    FnA P w K mg base (k + 1) f fd ps sp := by
  obtain ⟨oc, od, kV, doc, pm, an, cdv, ct, osl, rfl, lk, hcd⟩ := F.ex
  constructor
  · exact many
  intro A outer s H ar us vs Q room env hb rel want
  obtain ⟨t, der, hq⟩ := body cdv A outer s H vs Q (room.deeper _) want
  have inK : K.In s.heap := env.mod.kin.keeps fun b o z => (env.bs b o z).1
  have nolim : s.heap.NoLimit := env.mod.nolimit.keeps fun b o z => (env.bs b o z).1
  refine Att.call_fn inK nolim lk hcd room.depth hb (all_kinds S us) (fun s1 ic => ?_) S.co S.gen S.kind
  -- the state at the entry, read with nothing handled; then as it is
  have env' : Env0 P w K mg base { A with handled := none } outer s H := { frames := env.frames, mod := env.mod, bs := env.bs, bsz := env.bsz, funs := env.funs, frf := env.frf, hok := env.hok, bare := env.bare }
  have J := inv_start (CX := CX0) (E := E0) (N := N) S rfl env' (many _ _ _ _ want) rel ic
  have o := J.ok
  have o' : (cxA P w K mg base N qual (defScope st) f cdv A outer s H).Ok := { mod := o.mod, kind := o.kind, glob := o.glob, blt := o.blt, above := o.above, inj := o.inj, has := o.has, cab := o.cab, hd := fun z => Bool.noConfusion (show false = true from z), frames := o.frames, stk := o.stk, exf := o.exf, bs := o.bs, bsz := o.bsz, noex := o.noex, exfs := o.exfs, funs := o.funs, frf := o.frf }
  have J' : Inv (cxA P w K mg base N qual (defScope st) f cdv A outer s H) [] (start N vs) H s1 := { ok := o', os := J.os, bare := J.bare, base := J.base, loc := J.loc, cell := J.cell, free := J.free, freeC := J.freeC, pin := J.pin, hok := J.hok, len := J.len }
  refine wpAny_mono (der.run [] s1 _ H _ J' hq) ?_ fun _ _ z => z.elim
  rintro (_ | _ | _ | u) s' z
  · obtain ⟨σ', H', Z, q⟩ := z
    exact ⟨.non, H', Z.os, Z.bare, Z.base, Z.hok, rfl, q⟩
  · obtain ⟨_, _, _, q⟩ := z
    exact q.elim
  · obtain ⟨_, _, _, q⟩ := z
    exact q.elim
  · obtain ⟨v, σ', H', Z, r, q⟩ := z
    exact ⟨v, H', Z.os, Z.bare, Z.base, Z.hok, r, q⟩
end

section
variable {X : Cx} {k : Nat} {f : Addr} {fd : FuncData} {y : Str} {sp : Sp} {x : Str} {p pos : Pos} {e : Expr} {te : TE}
def oneA (R : V → Hp → Prop) : List V → Hp → Prop
  | [v], H => R v H
  | _, _ => False
theorem oneA_of {R : V → Hp → Prop} {vs : List V} {H : Hp} (h : oneA R vs H) : ∃ v, vs = [v] ∧ R v H := by
  rcases vs with _ | ⟨v, _ | ⟨_, _⟩⟩
  · exact h.elim
  · exact ⟨v, rfl, h⟩
  · exact h.elim
/-- x(e) -/
theorem pe_callA (F : FnA X.prog X.w X.K X.mg X.base k f fd [y] sp) (hr : L2H.RoomH k X.A) (hg : Gl X x) (hm : X.mg x = some (.ref f)) (hk : PySem.W.keepIn X.K (.ref f) = true) (hb : Binds X.K fd [y] []) (he : PE X e te)
    (hs : starEach (e :: []) X.env = (false, eval e X.env) :: starEach [] X.env := by rfl) (hpl : (backTo pos (starEach [] X.env)).any (·.1) = false := by rfl) (hdb : (x == ("__debug__" : Str)) = false := by decide) :
    PE X (.Call (.Name x p) [e] [] pos) (fun σ H Q => te σ H fun v H1 => sp [v] H1 Q E0) := by
  constructor
  intro pins s σ H Q I h
  refine wpAny_Call_Name_kw (ld_glob I hg hm (PySem.W.callWith_K (h₀ := X.base) I.ok.mod.kin hk (thn ((pa_cons he pa_nil hs).run pos pins s σ H (oneA fun v H1 => sp [v] H1 Q E0) I h) ?_) hs hpl) hdb)
  rintro us s1 ⟨vs, H1, I1, r, q0⟩
  obtain ⟨v, rfl, q⟩ := oneA_of q0
  have b := hb s1 us I1.kIn (by rw [List.append_nil, ← r.length]; rfl)
  rw [List.append_nil] at b
  refine ⟨I1.kIn, wpAny_call (codeAny_mono (F.does X.A X.stack s1 H1 ⟨us, []⟩ us [v] Q hr I1.env0 b r q) ?_)⟩
  rintro (z | (_ | _ | _ | u)) s2 hz
  · exact hz.elim
  · exact hz.elim
  · exact hz.elim
  · exact hz.elim
  · exact I1.after hz
/-- the very object at a -/
def pinO (a : Addr) (oe : Obj) : HO := .ext fun h => h.get? a = some oe
theorem pinO_ne {a : Addr} {oe : Obj} : (∀ xs, pinO a oe ≠ .tup xs) ∧ (∀ o u, pinO a oe ≠ .frz o u) ∧ (∀ ps, pinO a oe ≠ .tbl ps) ∧ ∀ y, pinO a oe ≠ .own y := by
  refine ⟨fun xs z => ?_, fun o u z => ?_, fun ps z => ?_, fun y z => ?_⟩
  · exact nomatch (show HO.ext _ = HO.tup xs from z)
  · exact nomatch (show HO.ext _ = HO.frz o u from z)
  · exact nomatch (show HO.ext _ = HO.tbl ps from z)
  · exact nomatch (show HO.ext _ = HO.own y from z)
/-- x(n), n the exception that is handled -/
theorem pe_callHot {a : Addr} {oe : Obj} {pn : List (Addr × Obj)} (nb : X.base.get? a = none) (F : FnA X.prog X.w X.K X.mg X.base k f fd [y] sp) (hr : L2H.RoomH k (X.A.mark (some (.ref a)))) (hg : Gl X x) (hm : X.mg x = some (.ref f)) (hk : PySem.W.keepIn X.K (.ref f) = true)
    (hb : Binds X.K fd [y] []) (he : PE (X.suite a ((a, oe) :: pn)) e te)
    (hs : starEach (e :: []) X.env = (false, eval e X.env) :: starEach [] X.env := by rfl) (hpl : (backTo pos (starEach [] X.env)).any (·.1) = false := by rfl) (hdb : (x == ("__debug__" : Str)) = false := by decide) :
    PE (X.suite a ((a, oe) :: pn)) (.Call (.Name x p) [e] [] pos) (fun σ H Q => te σ H fun v H1 => v = .ref a ∧ (H1 a = none → sp [.ref a] (upd H1 a (pinO a oe)) (fun r H2 => H2 a = some (pinO a oe) ∧ Q r (del H2 a)) E0)) := by
  constructor
  intro pins s σ H Q I h
  refine wpAny_Call_Name_kw (ld_glob I hg hm (PySem.W.callWith_K (h₀ := X.base) I.ok.mod.kin hk (thn ((pa_cons he pa_nil hs).run pos pins s σ H (oneA fun v H1 => v = .ref a ∧ (H1 a = none → sp [.ref a] (upd H1 a (pinO a oe)) (fun r H2 => H2 a = some (pinO a oe) ∧ Q r (del H2 a)) E0)) I h) ?_) hs hpl) hdb)
  rintro us s1 ⟨vs, H1, I1, r, q0⟩
  obtain ⟨v, rfl, rfl, q⟩ := oneA_of q0
  obtain ⟨ha, na, nL, nF, nc⟩ := I1.pin (a, oe) (List.mem_append_left _ List.mem_cons_self)
  have q := q na
  have b := hb s1 us I1.kIn (by rw [List.append_nil, ← r.length]; rfl)
  rw [List.append_nil] at b
  obtain ⟨n1, n2, n3, n4⟩ := @pinO_ne a oe
  have apart : ∀ {c : Addr} {o : HO}, H1 c = some o → c ≠ a := fun z e => by
    rw [e, na] at z
    cases z
  have up : ∀ {c : Addr} {o : HO}, H1 c = some o → upd H1 a (pinO a oe) c = some o := fun z => by rw [upd_ne (apart z)]; exact z
  have fr : a ∉ frs X.stack := fun hm => (List.mem_cons.mp (I1.stkSub a hm)).elim nL nF
  have ok2 : HOk X.prog X.w (upd H1 a (pinO a oe)) s1.heap := by
    intro c u z
    by_cases hc : c = a
    · subst hc
      rw [upd_same] at z
      cases z
      exact ⟨ha, ⟨oe, ha⟩, fun _ _ y k => k _ y⟩
    · rw [upd_ne hc] at z
      exact (I1.hok c u z).stay (fun _ _ _ y => y) (fun _ y => up y) fun _ _ y => up y
  have e0 := I1.env0
  have env : Env0 X.prog X.w X.K X.mg X.base (X.A.mark (some (.ref a))) X.stack s1 (upd H1 a (pinO a oe)) := {
    frames := e0.frames, mod := e0.mod, bsz := e0.bsz, funs := e0.funs, hok := ok2, bare := e0.bare
    bs := fun c o z => ⟨(e0.bs c o z).1, by
      have ne : c ≠ a := fun y => by rw [y, nb] at z; cases z
      rw [upd_ne ne]
      exact (e0.bs c o z).2⟩
    frf := fun c hc => by
      have ne : c ≠ a := fun e => fr (by rw [← e]; exact hc)
      rw [upd_ne ne]
      exact e0.frf c hc }
  refine ⟨I1.kIn, wpAny_call (codeAny_mono (F.does (X.A.mark (some (.ref a))) X.stack s1 _ ⟨us, []⟩ us [.ref a] _ hr env b r q) ?_)⟩
  rintro (z | (_ | _ | _ | u)) s2 hz
  · exact hz.elim
  · exact hz.elim
  · exact hz.elim
  · exact hz.elim
  obtain ⟨v, H2, os, bare, un, hok, rv, hp, q2⟩ := hz
  have ha2 : s2.heap.get? a = some oe := (hok a _ hp).1
  have dl : ∀ {c : Addr} {o : HO}, c ≠ a → H2 c = some o → del H2 a c = some o := fun n z => by rw [del_ne n]; exact z
  have U : Un (frs X.stack) [] H1 (del H2 a) s1.heap s2.heap := {
    keep := fun c o z n nf nx => by
      by_cases hc : c = a
      · subst hc
        rw [ha] at z
        cases z
        exact ha2
      · exact un.keep c o z (by rw [upd_ne hc]; exact n) nf nx
    slot := fun c o z n hf nx => by
      have hc : c ≠ a := fun e => fr (e ▸ hf)
      exact un.slot c o z (by rw [upd_ne hc]; exact n) hf nx
    free := fun c o z n nx => by
      by_cases hc : c = a
      · rw [hc]
        exact del_same
      · rw [del_ne hc]
        exact un.free c o z (by rw [upd_ne hc]; exact n) nx
    there := un.there
    tups := fun c xs z => dl (apart z) (un.tups c xs (up z))
    frzs := fun c o u z => dl (apart z) (un.frzs c o u (up z))
    tbls := fun c ps z => let ⟨m, e⟩ := un.tbls c ps (up z); ⟨m, dl (apart z) e⟩ }
  have ok3 : HOk X.prog X.w (del H2 a) s2.heap := by
    intro c u z
    have hc : c ≠ a := fun e => by
      rw [e, del_same] at z
      cases z
    rw [del_ne hc] at z
    have other : ∀ {d : Addr} {o : HO}, H2 d = some o → pinO a oe ≠ o → d ≠ a := fun {d o} z1 n e => by
      rw [e, hp] at z1
      exact n (Option.some.inj z1)
    exact (hok c u z).stay (fun _ _ _ y => y) (fun d y => dl (other y (n4 c)) y) fun d xs y => dl (other y (n1 xs)) y
  exact ⟨v, del H2 a, I1.call' (ch := []) os U ok3 bare (fun _ z => nomatch z), rv, q2⟩
end
end Nv
set_option Elab.async false
set_option linter.all false
set_option maxRecDepth 100000
set_option maxHeartbeats 4000000
/-! What the written part says of an own exception class, as one look. -/
namespace Nv
open PySem PySem.Spec PyProof.Rows L2

def shapeB (K : PySem.W.Frag) (C : Addr) : Bool := match K.lookup C with
  | some ⟨.type "type", _, .cls cd, sl⟩ => (match cd.mro, sl.toList with
    | .ref D :: bm, [_, _, _, _, some (.builtin n), _] => D == C && (n == "ValueError.__new__" && (!cd.hasDel && (PySem.HandSPX.refsVE bm && cd.hasDict)))
    | _, _ => false)
  | _ => false
theorem shape_of {K : PySem.W.Frag} {C : Addr} (z : shapeB K C = true) :
    ∃ nm q N bs bm sn sub ab col dd k0 k1 k2 k3 k5, K.lookup C = some (excClassObj nm q C N bs bm true sn sub ab col dd k0 k1 k2 k3 k5 "ValueError.__new__") ∧ PySem.HandSPX.refsVE bm = true := by
  unfold shapeB at z
  split at z
  · rename_i dd cd sl ho
    split at z
    · rename_i D bm k0 k1 k2 k3 n k5 hm hs
      rw [Bool.and_eq_true, Bool.and_eq_true, Bool.and_eq_true, Bool.and_eq_true, beq_iff_eq, beq_iff_eq, Bool.not_eq_true'] at z
      obtain ⟨rfl, rfl, hdel, hb, hh⟩ := z
      obtain ⟨nm, bs, mro, ns, qn, hd, sn, sub, ab, col, del⟩ := cd
      dsimp only at hm hdel hh
      subst hm hdel hh
      obtain ⟨sl⟩ := sl
      simp only at hs
      subst hs
      exact ⟨nm, qn, ns, bs, bm, sn, sub, ab, col, dd, k0, k1, k2, k3, k5, ho, hb⟩
    · cases z
  · cases z
def nameB (r : Option PySem.W.CFound) (C : Addr) : Bool := match r with
  | some (.get g a o t) => g == .builtin "getset_descriptor.__get__" && (a == .builtin "type.__name__" && (o == .ref C && t == .type "type"))
  | _ => false
theorem nameB_of {r : Option PySem.W.CFound} {C : Addr} (z : nameB r C = true) : r = some (.get (.builtin "getset_descriptor.__get__") (.builtin "type.__name__") (.ref C) (.type "type")) := by
  unfold nameB at z
  split at z
  · simp only [Bool.and_eq_true, beq_iff_eq] at z
    obtain ⟨rfl, rfl, rfl, rfl⟩ := z
    rfl
  · cases z
/-- all that is asked of the class at C, its __init__ at fI -/
def classB (K : PySem.W.Frag) (C fI : Addr) : Bool :=
  shapeB K C && (PySem.W.findIn K (.ref C) "__setattr__" == some (some (.builtin "object.__setattr__")) && (PySem.W.subIn K (.ref C) (.type "BaseException") == some true && (PySem.W.typeIn K (.ref C) == some (.type "type") &&
  (PySem.W.keepIn K (.ref C) && (PySem.W.findIn K (.ref C) "__init__" == some (some (.ref fI)) && (PySem.W.findIn K (.ref C) "value" == some none && ((PySem.W.clsIn K C).isSome &&
  (PySem.W.findIn K (.ref C) "__getattribute__" == some (some (.builtin "BaseException.__getattribute__")) && (PySem.W.findIn K (.ref C) "__getattr__" == some none && (PySem.W.findIn K (.ref C) "__class__" == some (some (.builtin "object.__class__")) &&
  (PySem.W.mroIn K C (.type "object") == some true && (PySem.W.hasDictIn K C && (PySem.W.findIn K (.ref C) "name" == some none && (PySem.W.readsIn K C (.type "type") &&
  ((PySem.W.nameIn K C).isSome && nameB (PySem.W.findCls K (.ref C) (.type "type") "__name__") C)))))))))))))))
def metaB (K : PySem.W.Frag) (fI : Addr) : Bool := PySem.W.typeIn K (.ref fI) == some (.type "function") && (PySem.W.specialIn K (.builtin "object.__class__") "__get__" == some (some (.builtin "getset_descriptor.__get__")) && PySem.W.takesIn K (.builtin "object.__class__") == some true)
structure Xc (K : PySem.W.Frag) (C fI : Addr) : Prop where
  mx : MkX K C fI
  cl : XCls K C
  fl : XfC K C
theorem class_of {K : PySem.W.Frag} {C fI : Addr} (z : classB K C fI = true) (m : metaB K fI = true) : Xc K C fI := by
  unfold classB at z
  unfold metaB at m
  simp only [Bool.and_eq_true, beq_iff_eq] at z m
  obtain ⟨z1, z2, z3, z4, z5, z6, z7, z8, z9, z10, z11, z12, z13, z14, z15, z16, z17⟩ := z
  obtain ⟨m1, m2, m3⟩ := m
  exact ⟨⟨⟨shape_of z1, z2, z3, z4, z5⟩, z6, m1, z7, z14, ⟨z9, z10, z3, z8, z11, m2, m3, z12, z15, z4, nameB_of z17, Option.isSome_iff_exists.mp z16⟩⟩, ⟨z8, z9, z10, z3, z11, m2, m3, z12⟩, ⟨z9, z10, z3, z13⟩⟩
/-- the address of a class of the module -/
def addrIn (K : PySem.W.Frag) (n : Str) : Addr := match PySem.W.nsIn K mainGlobals n with
  | some (some (.ref a)) => a
  | _ => 0
def namedB (K : PySem.W.Frag) (n : Str) : Bool := PySem.W.nsIn K mainGlobals n == some (some (.ref (addrIn K n)))
theorem named_of {K : PySem.W.Frag} {h : Heap} {mg : Str → Option Value} {n : Str} (X : K.In h) (G : h.Ns mainGlobals mg) (z : namedB K n = true) : mg n = some (.ref (addrIn K n)) := PySem.W.mg_of X G (beq_iff_eq.mp z)
end Nv
set_option Elab.async false
set_option linter.all false
set_option maxRecDepth 100000
set_option maxHeartbeats 4000000
/-! raise C(e) where nothing is handled; readings that hang on what a suite holds. -/
namespace Nv
open PySem PySem.Spec PyProof.Rows L2

theorem PSs.all {X : Cx} {ι : Type} {p : ι → Prop} {t : ι → TS} {st : List Stmt} (i : ι) (hi : p i) (h : PSs X st (t i)) : PSs X st (fun D σ H => ∀ i, p i → t i D σ H) :=
  ⟨fun pins s σ H D I q => h.run pins s σ H D I (q i hi)⟩
theorem takesN0 {X : Cx} : L2N.Takes X (fun _ _ _ _ => False) := fun _ _ ⟨_, _, _, _, _, _, _, _, _, _, _, _, _, _, _, _, w⟩ => w.elim

section
variable {X : Cx} {C fI : Addr} {k : Nat} {fd : FuncData} {x : Str} {p pos : Pos} {e : Expr} {te : TE}
def xdQ (C : Addr) (Q : XK) (v : V) (H1 : Hp) : Prop := ∀ dx n, H1 dx = none → Q (.ref C) (some dx) (upd H1 dx (.xd (xf n v)))
theorem pmk_mkx (T : MkX X.K C fI) (F1 : FnOk X.prog X.w X.K X.mg X.base CX0 k fI fd ["self", "value"] (spIni X.K)) (hr : Room (k + 1) X.A) (hb : Binds X.K fd ["self", "value"] []) (hg : Gl X x) (hm : X.mg x = some (.ref C)) (he : PE X e te)
    (hs : starEach (e :: []) X.env = (false, eval e X.env) :: starEach [] X.env := by rfl) (hpl : (backTo pos (starEach [] X.env)).any (·.1) = false := by rfl) (hdb : (x == ("__debug__" : Str)) = false := by decide) :
    L2N.PMk X (.Call (.Name x p) [e] [] pos) (fun σ H Q => te σ H fun v H1 => xdQ C Q v H1) := by
  intro pins s σ H Q I h
  obtain ⟨nm, q, N, bs, bm, sn, sub, ab, col, dd, k0, k1, k2, k3, k5, hC, hbm⟩ := T.ox.cls
  refine wpAny_Call_Name_kw (ld_glob I hg hm (PySem.W.callWith_K (h₀ := X.base) I.ok.mod.kin T.ox.kC (thn ((pa_cons he pa_nil hs).run pos pins s σ H (oneA fun v H1 => xdQ C Q v H1) I h) ?_) hs hpl) hdb)
  rintro us ⟨hp, g, dr, tk, os⟩ ⟨vs, H1, I1, r1, q1⟩
  obtain ⟨v, rfl, q2⟩ := oneA_of q1
  refine ⟨I1.kIn, ?_⟩
  cases r1 with
  | cons rv rr =>
    cases rr
    rename_i u
    obtain ⟨a, ha⟩ : ∃ a, a = hp.objs.size + 1 := ⟨_, rfl⟩
    have h2 : ((hp.push (PySem.W.kdv_tup [u])).push (PySem.HandSPX.excO C hp.objs.size)).get? a = some (PySem.HandSPX.excO C hp.objs.size) := by rw [ha]; heap_get
    have new : hp.objs.size ≤ a := by rw [ha]; exact Nat.le_succ _
    have kk : ∀ b o, hp.get? b = some o → ((hp.push (PySem.W.kdv_tup [u])).push (PySem.HandSPX.excO C hp.objs.size)).get? b = some o := fun _ _ z => Heap.get?_push_of_some _ (Heap.get?_push_of_some _ z)
    have J := I1.laid (t' := tk) (a := a) (o := exo a C none) (h' := (hp.push (PySem.W.kdv_tup [u])).push (PySem.HandSPX.excO C hp.objs.size)) kk new (exo_ok h2)
    have nH : H1 a = none := I1.hok.fresh new
    have want : spIni X.K [.ref a, v] (upd H1 a (exo a C none)) (fun z H2 => z = .non ∧ ∃ dx n, H1 dx = none ∧ dx ≠ a ∧ H2 = upd (upd (upd H1 a (exo a C none)) dx (exd dx (xf n v))) a (exo a C (some dx))) E0 := by
      refine ⟨_, C, v, rfl, T.ox, T.nov, T.nof, T.nmc, upd_same, fun dx n nd ne => ⟨rfl, dx, n, ?_, ne, rfl⟩⟩
      rw [upd_ne ne] at nd
      exact nd
    refine wpAny_call (PySem.HandSPX.call_own F.excBase_ValueError (fun Y => PySem.HandSPX.refsVE_contains Y bm hbm) (I1.kIn _ _ hC) (PySem.W.looks_findIn I1.kIn T.ini) (fun self => PySem.W.bind_fn I1.kIn self T.tyI) (by show 1 ≤ sizeLine; decide) ?_)
    rw [← ha]
    refine codeAny_mono (F1.run _ X.stack _ _ ⟨[.ref a, u], []⟩ [.ref a, u] [.ref a, v] _ E0 (hr.make C [u] []) (J.env0.make C [u] []) (hb _ [.ref a, u] J.kIn rfl) (.cons rfl (.cons rv .nil)) want) ?_
    rintro (z | (_ | _ | _ | r)) s' hz
    · exact hz.elim
    · exact hz.elim
    · exact hz.elim
    · exact hz.elim
    · obtain ⟨v', H2, os2, bare2, un2, hok2, rv', ev, dx, n, nd, ne, eH⟩ := hz
      subst ev
      obtain ⟨hh, g2, d2, t2, os'⟩ := s'
      have ea : H2 a = some (exo a C (some dx)) := by rw [eH]; exact upd_same
      have ed : H2 dx = some (exd dx (xf n v)) := by rw [eH, upd_ne ne]; exact upd_same
      obtain ⟨t0, G, J3, kG, ge, hoe, na⟩ := mk_end0 (d2 := d2) (t2 := t2) I1 new kk un2 hok2 os2 bare2 ea ed nd
      have eq : upd (del H2 a) dx (.xd (xf n v)) = upd H1 dx (.xd (xf n v)) := by
        funext b
        by_cases e1 : b = dx
        · rw [e1, upd_same, upd_same]
        · rw [upd_ne e1, upd_ne e1]
          by_cases e2 : b = a
          · rw [e2, del_same, nH]
          · rw [del_ne e2, eH, upd_ne e2, upd_ne e1, upd_ne e2]
      rw [eq] at J3 na
      exact ⟨rv', a, _, _, ⟨G, g2, d2, t2, os'⟩, _, .ref C, some dx, rfl, J3, kG, ge, hoe, ⟨rfl, rfl, fun vs e => by cases e; rfl⟩, rfl, rfl, na, rfl, bare2, raises_own T.ox.exC T.ox.tyC, q2 dx n nd⟩
end

/-- lists of truths are data -/
theorem dp_bits {K : PySem.W.Frag} {H : Hp} : ∀ bs : List Bool, DpAll K H (bs.map V.bl) (bs.map PyData.bool)
  | [] => .nil
  | b :: r => .cons (.bl b) (dp_bits r)
end Nv
set_option Elab.async false
set_option linter.all false
set_option maxRecDepth 100000
set_option maxHeartbeats 4000000
/-! How long a shown datum is at most. -/
namespace Nv
open PySem PySem.Spec PyProof.Rows L2

theorem textFrom_le : ∀ (ts : List Str) (k : Nat) (acc : Str), (textFrom k acc ts).length ≤ acc.length + piled ts
  | [], k, acc => by show acc.length ≤ _; omega
  | t :: r, k, acc => by
    have ih := textFrom_le r (k + 1) (acc ++ (if k > 0 then ", " else "" : String) ++ t)
    show (textFrom (k + 1) (acc ++ (if k > 0 then ", " else "" : String) ++ t) r).length ≤ _
    rw [strLen_append, strLen_append] at ih
    have e : piled (t :: r) = t.length + 2 + piled r := by simp [piled]
    have c : (Str.ofString (if k > 0 then ", " else "" : String)).length ≤ 2 := by
      split
      · decide
      · decide
    rw [e]
    have ih' : (textFrom (k + 1) (acc ++ (if k > 0 then ", " else "" : String) ++ t) r).length ≤ acc.length + (Str.ofString (if k > 0 then ", " else "" : String)).length + t.length + piled r := ih
    omega
theorem listText_le (ts : List Str) : (listText ts).length ≤ piled ts + 2 := by
  unfold listText
  rw [strLen_append]
  have h := textFrom_le ts 0 "["
  have e : (("[" : String) : Str).length = 1 := rfl
  have e2 : (("]" : String) : Str).length = 1 := rfl
  omega
theorem tupleText_le (ts : List Str) : (tupleText ts).length ≤ piled ts + 3 := by
  unfold tupleText
  rw [strLen_append, strLen_append]
  have c : (Str.ofString (if ts.length == 1 then ",)" else ")" : String)).length ≤ 2 := by
    split
    · decide
    · decide
  have e : (("(" : String) : Str).length = 1 := rfl
  by_cases h : ts = []
  · subst h
    exact Nat.le_of_ble_eq_true rfl
  · have j := join_length_add ts h
    have c' : ((if ts.length == 1 then ",)" else ")" : String) : Str).length ≤ 2 := c
    omega
theorem intText_le {i : Int} (h : i.natAbs < 10 ^ 40) : (Str.ofString (toString i)).length ≤ 41 := by
  have e := int_text_length_le10 (k := 40) (by decide) h
  rw [PySem.ofString_length]
  omega

theorem nice_non : Nice .none := ⟨rfl, by decide, by decide, fun h => nomatch h⟩
theorem nice_bl (b : Bool) : Nice (.bool b) := by
  cases b
  · exact ⟨rfl, by decide, by decide, fun h => nomatch h⟩
  · exact ⟨rfl, by decide, by decide, fun h => nomatch h⟩
theorem log_lt {i : Int} (h : i.natAbs < 10 ^ 40) : i.natAbs.log2 < 1920 := by
  by_cases z : i.natAbs = 0
  · rw [z]
    decide
  · have a : i.natAbs.log2 < 140 := (Nat.log2_lt z).mpr (Nat.lt_trans h (by decide))
    omega
theorem nice_int {i : Int} (h : i.natAbs < 10 ^ 40) : Nice (.int i) := by
  refine ⟨?_, by show 0 ≤ 60; decide, ?_, fun h => nomatch h⟩
  · simp only [PyData.showable]
    exact decide_eq_true (log_lt h)
  · show (Str.ofString (toString i)).length ≤ sizeLine
    exact Nat.le_trans (intText_le h) (by decide)
theorem reprText_le {t : Str} (h : t.length ≤ 1000) (hc : ∀ c ∈ t.cps.toList, c < 200) : (reprText t).length ≤ 10 * t.length + 2 := StrLaws.reprText_len t fun c hm => Nat.lt_trans (hc c hm) (by decide)
theorem nice_str {t : Str} (h : t.length ≤ 1000) (hc : ∀ c ∈ t.cps.toList, c < 200) : Nice (.str t) := by
  refine ⟨rfl, by show 0 ≤ 60; decide, ?_, fun h => nomatch h⟩
  show (reprText t).length ≤ sizeLine
  have := reprText_le h hc
  exact Nat.le_trans this (Nat.le_trans (show 10 * t.length + 2 ≤ 10002 by omega) (by decide))
/-- ints in a row -/
def intsOk (xs : List Int) : Prop := ∀ x ∈ xs, x.natAbs < 10 ^ 40
theorem piled_ints : ∀ {xs : List Int}, intsOk xs → piled (PyData.shownAll (xs.map PyData.int)) ≤ 43 * xs.length
  | [], _ => Nat.le_refl _
  | x :: r, h => by
    have ih := piled_ints (xs := r) fun y hy => h y (List.mem_cons_of_mem _ hy)
    have e := intText_le (h x List.mem_cons_self)
    show piled (Str.ofString (toString x) :: PyData.shownAll (r.map PyData.int)) ≤ _
    rw [piled_cons, List.length_cons]
    omega
theorem shows_ints : ∀ {xs : List Int}, intsOk xs → PyData.showableAll (xs.map PyData.int) = true
  | [], _ => rfl
  | x :: r, h => by
    show (PyData.showable (.int x) && PyData.showableAll (r.map PyData.int)) = true
    rw [shows_ints (xs := r) fun y hy => h y (List.mem_cons_of_mem _ hy), (nice_int (h x List.mem_cons_self)).shows]
    rfl
theorem deep_ints : ∀ xs : List Int, PyData.depthAll (xs.map PyData.int) = 0
  | [] => rfl
  | x :: r => by
    show max (PyData.depth (.int x)) (PyData.depthAll (r.map PyData.int)) = 0
    rw [deep_ints r]
    rfl
theorem flat_ints : ∀ xs : List Int, PyData.hasDictAll (xs.map PyData.int) = false
  | [] => rfl
  | x :: r => by
    show (PyData.hasDict (.int x) || PyData.hasDictAll (r.map PyData.int)) = false
    rw [flat_ints r]
    rfl
/-- one nice thing ahead of ints, in a list -/
theorem nice_row {d : PyData} {xs : List Int} (n : Nice d) (nd : d.hasDict = false) (ld : d.shown.length ≤ 20000) (dd : d.depth ≤ 40) (h : intsOk xs) (l : xs.length ≤ 1000) : Nice (.list (d :: xs.map PyData.int)) := by
  refine ⟨?_, ?_, ?_, fun z => ?_⟩
  · show (PyData.showable d && PyData.showableAll (xs.map PyData.int)) = true
    rw [n.shows, shows_ints h]
    rfl
  · show (max d.depth (PyData.depthAll (xs.map PyData.int))) + 1 ≤ 60
    rw [deep_ints]
    omega
  · show (listText (d.shown :: PyData.shownAll (xs.map PyData.int))).length ≤ sizeLine
    have a := listText_le (d.shown :: PyData.shownAll (xs.map PyData.int))
    have b := piled_ints h
    rw [piled_cons] at a
    exact Nat.le_trans a (Nat.le_trans (show _ ≤ 100000 by omega) (by decide))
  · have e : PyData.hasDict (.list (d :: xs.map PyData.int)) = false := by
      show (d.hasDict || PyData.hasDictAll (xs.map PyData.int)) = false
      rw [nd, flat_ints]
      rfl
    rw [e] at z
    cases z
theorem dv_ints {H : Hp} : ∀ xs : List Int, DVs H (xs.map V.int) (xs.map PyData.int)
  | [] => .nil
  | x :: r => .cons (.int x) (dv_ints r)
theorem nice_pair {t : Str} (h : t.length ≤ 1000) (hc : ∀ c ∈ t.cps.toList, c < 200) : Nice (.tuple [.str t, .none]) := by
  refine ⟨rfl, (by show max 0 (max 0 0) + 1 ≤ 60; decide), ?_, fun z => nomatch z⟩
  show (tupleText [reprText t, Str.ofString "None"]).length ≤ sizeLine
  have a := tupleText_le [reprText t, Str.ofString "None"]
  have b := reprText_le h hc
  rw [piled_cons, piled_cons, piled_nil] at a
  have e : (Str.ofString "None").length = 4 := rfl
  exact Nat.le_trans a (Nat.le_trans (show _ ≤ 20000 by omega) (by decide))
theorem nice_empty : Nice (.dict []) := ⟨rfl, by decide, by decide, fun _ => rfl⟩
theorem nice_nil : Nice (.list []) := ⟨rfl, by decide, by decide, fun z => nomatch z⟩
end Nv
set_option Elab.async false
set_option linter.all false
set_option maxRecDepth 100000
set_option maxHeartbeats 16000000
namespace T1
open PySem PySem.Spec PyProof.Rows L2 Nv
def top (i : Nat) : Stmt := PySem.Challenge.pw_nevercrossed_k11_texts_of_walks_refused.main.body.getD i (.Pass ⟨0, 0, 0, 0⟩)
/-! ### what the questions ask, of data -/
def intish : PyData → Bool
  | .bool _ => true
  | .int _ => true
  | _ => false
def boolish : PyData → Bool
  | .bool _ => true
  | _ => false
def tupish : PyData → Bool
  | .tuple _ => true
  | _ => false
def strish : PyData → Bool
  | .str _ => true
  | _ => false
def intB : PyData → Bool
  | .int _ => true
  | _ => false
def pairB : PyData → Bool
  | .tuple [_, _] => true
  | _ => false
def cooB : PyData → Bool
  | .int i => decide (0 ≤ i) && decide (i ≤ 30)
  | _ => false
def ptB : PyData → Bool
  | .tuple [a, b] => cooB a && cooB b
  | _ => false
def dirOf (s : Str) : Bool := decide (s = "r") || (decide (s = "u") || (decide (s = "l") || decide (s = "d")))
def dirB : PyData → Bool
  | .str s => dirOf s
  | _ => false
/-- a def that asks one value and gives a truth -/
def spB (b : PyData → Bool) : Sp := fun vs H Q _ => ∃ v d, vs = [v] ∧ DV H v d ∧ ∀ H', Same H H' → Q (.bl (b d)) H'
theorem same0 (H : Hp) : Same H H := fun _ _ e => e

/-- the type's name of a datum -/
def tyN : PyData → String
  | .none => "NoneType"
  | .bool _ => "bool"
  | .int _ => "int"
  | .str _ => "str"
  | .list _ => "list"
  | .tuple _ => "tuple"
  | .dict _ => "dict"
theorem ty_of {K : PySem.W.Frag} {H : Hp} {v : V} {d : PyData} (h : DV H v d) : TyX K H v (.type (tyN d)) := by
  cases h with
  | non => exact .base .non
  | bl b => exact .base (.bl b)
  | int i => exact .base (.int i)
  | str x => exact .base (.str x)
  | lst h r => exact .base (.lst h)
  | tup h r => exact .base (.tup h)
  | emp h => exact .base (.dK h)
theorem kit_int (d : PyData) : kitB (tyN d) "int" = some (intish d) := by
  cases d
  · show kitB "NoneType" "int" = some false
    decide +kernel
  · show kitB "bool" "int" = some true
    decide +kernel
  · show kitB "int" "int" = some true
    decide +kernel
  · show kitB "str" "int" = some false
    decide +kernel
  · show kitB "list" "int" = some false
    decide +kernel
  · show kitB "tuple" "int" = some false
    decide +kernel
  · show kitB "dict" "int" = some false
    decide +kernel
theorem kit_bool (d : PyData) : kitB (tyN d) "bool" = some (boolish d) := by
  cases d
  · show kitB "NoneType" "bool" = some false
    decide +kernel
  · show kitB "bool" "bool" = some true
    decide +kernel
  · show kitB "int" "bool" = some false
    decide +kernel
  · show kitB "str" "bool" = some false
    decide +kernel
  · show kitB "list" "bool" = some false
    decide +kernel
  · show kitB "tuple" "bool" = some false
    decide +kernel
  · show kitB "dict" "bool" = some false
    decide +kernel
theorem kit_tuple (d : PyData) : kitB (tyN d) "tuple" = some (tupish d) := by
  cases d
  · show kitB "NoneType" "tuple" = some false
    decide +kernel
  · show kitB "bool" "tuple" = some false
    decide +kernel
  · show kitB "int" "tuple" = some false
    decide +kernel
  · show kitB "str" "tuple" = some false
    decide +kernel
  · show kitB "list" "tuple" = some false
    decide +kernel
  · show kitB "tuple" "tuple" = some true
    decide +kernel
  · show kitB "dict" "tuple" = some false
    decide +kernel
theorem kit_str (d : PyData) : kitB (tyN d) "str" = some (strish d) := by
  cases d
  · show kitB "NoneType" "str" = some false
    decide +kernel
  · show kitB "bool" "str" = some false
    decide +kernel
  · show kitB "int" "str" = some false
    decide +kernel
  · show kitB "str" "str" = some true
    decide +kernel
  · show kitB "list" "str" = some false
    decide +kernel
  · show kitB "tuple" "str" = some false
    decide +kernel
  · show kitB "dict" "str" = some false
    decide +kernel
theorem dv_tup {H : Hp} {v : V} {ds : List PyData} (h : DV H v (.tuple ds)) : ∃ a xs, v = .ref a ∧ H a = some (.tup xs) ∧ DVs H xs ds := by
  cases h with
  | tup h r => exact ⟨_, _, rfl, h, r⟩
theorem dv_pair {H : Hp} {v : V} {d e : PyData} (h : DV H v (.tuple [d, e])) : ∃ a x y, v = .ref a ∧ H a = some (.tup [x, y]) ∧ DV H x d ∧ DV H y e := by
  obtain ⟨a, xs, rfl, h1, r⟩ := dv_tup h
  cases r with
  | cons h2 r =>
    cases r with
    | cons h3 r =>
      cases r
      exact ⟨a, _, _, rfl, h1, h2, h3⟩
theorem pair_of {d : PyData} (h : pairB d = true) : ∃ a b, d = .tuple [a, b] := by
  cases d with
  | tuple ds =>
    rcases ds with _ | ⟨a, _ | ⟨b, _ | ⟨c, r⟩⟩⟩
    · cases h
    · cases h
    · exact ⟨a, b, rfl⟩
    · cases h
  | _ => cases h
theorem coo_of {d : PyData} (h : cooB d = true) : ∃ i : Int, d = .int i ∧ 0 ≤ i ∧ i ≤ 30 := by
  cases d with
  | int i =>
    have := Bool.and_eq_true_iff.mp (show (decide (0 ≤ i) && decide (i ≤ 30)) = true from h)
    exact ⟨i, rfl, of_decide_eq_true this.1, of_decide_eq_true this.2⟩
  | _ => cases h
theorem pt_of {d : PyData} (h : ptB d = true) : ∃ i j : Int, d = .tuple [.int i, .int j] ∧ 0 ≤ i ∧ i ≤ 30 ∧ 0 ≤ j ∧ j ≤ 30 := by
  cases d with
  | tuple ds =>
    rcases ds with _ | ⟨a, _ | ⟨b, _ | ⟨c, r⟩⟩⟩
    · cases h
    · cases h
    · have z := Bool.and_eq_true_iff.mp (show (cooB a && cooB b) = true from h)
      obtain ⟨i, rfl, i0, i1⟩ := coo_of z.1
      obtain ⟨j, rfl, j0, j1⟩ := coo_of z.2
      exact ⟨i, j, rfl, i0, i1, j0, j1⟩
    · cases h
  | _ => cases h
theorem dv_int {H : Hp} {v : V} {i : Int} (h : DV H v (.int i)) : v = .int i := by
  cases h
  rfl
theorem dv_str {H : Hp} {v : V} {i : Str} (h : DV H v (.str i)) : v = .str i := by
  cases h
  rfl
theorem dv_pt {H : Hp} {v : V} {i j : Int} (h : DV H v (.tuple [.int i, .int j])) : ∃ a, v = .ref a ∧ H a = some (.tup [.int i, .int j]) := by
  obtain ⟨a, x, y, rfl, h1, hx, hy⟩ := dv_pair h
  rw [dv_int hx, dv_int hy] at h1
  exact ⟨a, rfl, h1⟩
theorem sqt {K : PySem.W.Frag} {H : Hp} {a : Addr} {xs : List V} (h : H a = some (.tup xs)) : SqT K H a xs := .inl (.inl h)

mutual
theorem dv_dp {K : PySem.W.Frag} {H : Hp} : ∀ {v : V} {d : PyData}, DV H v d → d.hasDict = false → Dp K H v d
  | _, _, .non, _ => .non
  | _, _, .bl b, _ => .bl b
  | _, _, .int i, _ => .int i
  | _, _, .str x, _ => .str x
  | _, _, .lst h r, n => .lst (SqL.of h) (dvs_dp r (by simpa [PyData.hasDict] using n))
  | _, _, .tup h r, n => .tup (sqt h) (dvs_dp r (by simpa [PyData.hasDict] using n))
  | _, _, .emp h, n => by simp [PyData.hasDict] at n
theorem dvs_dp {K : PySem.W.Frag} {H : Hp} : ∀ {vs : List V} {ds : List PyData}, DVs H vs ds → PyData.hasDictAll ds = false → DpAll K H vs ds
  | _, _, .nil, _ => .nil
  | _, _, .cons (d := d) (ds := ds) h r, n => by
    have z : d.hasDict = false ∧ PyData.hasDictAll ds = false := by simpa [PyData.hasDictAll] using n
    exact .cons (dv_dp h z.1) (dvs_dp r z.2)
end
structure Ta (mg : Str → Option Value) : Prop where
  isi : mg "isinstance" = none
  int : mg "int" = none
  bool : mg "bool" = none
  tup : mg "tuple" = none
  str : mg "str" = none
  len : mg "len" = none
  last : ∃ t, mg "LAST" = some (.int 30 t)
/-- a def of the text, where it stands -/
structure At (K : PySem.W.Frag) (mg : Str → Option Value) (n : Str) (f : Addr) (fd : FuncData) (ps : List Str) : Prop where
  g : mg n = some (.ref f)
  k : PySem.W.keepIn K (.ref f) = true
  b : Binds K fd ps []
section
variable {P : Program} {w : World} {K : PySem.W.Frag} {mg : Str → Option Value} {base : Heap}
theorem spB_len {b : PyData → Bool} {n : Str} : ∀ (vs : List V) (H : Hp) (Q : VK) (E : XK), spB b vs H Q E → vs.length = [n].length := fun vs H Q E h => by
  obtain ⟨v, d, rfl, _⟩ := h
  rfl
theorem intB_eq {d : PyData} : intB d = (intish d && !(boolish d)) := by cases d <;> rfl
theorem and_t {a b : Bool} (h : a = true) : (a && b) = b := by rw [h]; rfl
theorem and_f {a b : Bool} (h : ¬ a = true) : (a && b) = false := by cases a <;> simp_all
theorem scI : FnScope ["value"] ["value"] (defScope (top 6)) := ⟨rfl, rfl, rfl, by decide +kernel, rfl, by decide +kernel, by decide +kernel⟩
theorem ok_isint {f : Addr} {fd : FuncData} (F : Fun K "is_integer" "is_integer" (top 6) f fd) (T : Ta mg) : FnOk P w K mg base CX0 1 f fd ["value"] (spB intB) := by
  refine F.ok scI spB_len (fun cdv A outer s H vs Q E hr h => ?_)
  obtain ⟨v, d, rfl, dv, q⟩ := h
  refine ⟨_, pss_one (ps_ret (pe_and (pe_callB call_isi (by rfl) T.isi (by decide +kernel) (pa_cons (pv 0) (pa_cons (pe_bltn (v := .ty "int") (u := .type "int") (by rfl) T.int (by decide +kernel) rfl) pa_nil)))
    (pe_one (pe_not (pe_callB call_isi (by rfl) T.isi (by decide +kernel) (pa_cons (pv 0) (pa_cons (pe_bltn (v := .ty "bool") (u := .type "bool") (by rfl) T.bool (by decide +kernel) rfl) pa_nil))))))), ?_⟩
  refine ⟨_, rfl, _, .ty "int", .type (tyN d), .type "int", _, rfl, .ty _, ty_of dv, kit_ty (kit_int d), _, rfl, ite2 (fun e => ?_) (fun e => ?_)⟩
  · refine ⟨_, rfl, _, .ty "bool", .type (tyN d), .type "bool", _, rfl, .ty _, ty_of dv, kit_ty (kit_bool d), _, rfl, ?_⟩
    have := q H (same0 H)
    rwa [intB_eq, and_t e] at this
  · have := q H (same0 H)
    rwa [intB_eq, and_f e] at this
theorem tupish_of {d : PyData} (h : tupish d = true) : ∃ ds, d = .tuple ds := by
  cases d with
  | tuple ds => exact ⟨ds, rfl⟩
  | _ => cases h
theorem int_of {d : PyData} (h : intB d = true) : ∃ i, d = .int i := by
  cases d with
  | int i => exact ⟨i, rfl⟩
  | _ => cases h
theorem coo_int {d : PyData} (h : intB d = false) : cooB d = false := by
  cases d with
  | int i => cases h
  | _ => rfl
/-- a length asked: the datum is a pair, or not -/
theorem pair_len {ds : List PyData} (h : (!decide (V.int (ds.length : Int) = V.int 2)) = false) : ∃ da db, ds = [da, db] := by
  rcases ds with _ | ⟨a, _ | ⟨b, _ | ⟨c, r0⟩⟩⟩
  · cases h
  · cases h
  · exact ⟨a, b, rfl⟩
  · have := of_decide_eq_true (by simpa using h : decide (V.int (((a :: b :: c :: r0).length : Nat) : Int) = V.int 2) = true)
    have := V.int.inj this
    simp only [List.length_cons] at this
    omega
theorem pair_nolen {ds : List PyData} (h : (!decide (V.int (ds.length : Int) = V.int 2)) = true) : pairB (.tuple ds) = false := by
  rcases ds with _ | ⟨a, _ | ⟨b, _ | ⟨c, r0⟩⟩⟩
  · rfl
  · rfl
  · cases h
  · rfl
theorem ptB_pair {d : PyData} (h : pairB d = false) : ptB d = false := by
  cases d with
  | tuple ds =>
    rcases ds with _ | ⟨a, _ | ⟨b, _ | ⟨c, r⟩⟩⟩
    · rfl
    · rfl
    · cases h
    · rfl
  | _ => rfl
theorem pair_tup {d : PyData} (h : tupish d = false) : pairB d = false := by
  cases d with
  | tuple ds => cases h
  | _ => rfl
theorem scPt : FnScope ["value", "x", "y"] ["value"] (defScope (top 7)) := ⟨rfl, rfl, rfl, by decide +kernel, rfl, by decide +kernel, by decide +kernel⟩
theorem ok_ispoint {f fI : Addr} {fd fdI : FuncData} (F : Fun K "is_point" "is_point" (top 7) f fd) (T : Ta mg) (GI : FnOk P w K mg base CX0 1 fI fdI ["value"] (spB intB)) (AI : At K mg "is_integer" fI fdI ["value"]) :
    FnOk P w K mg base CX0 3 f fd ["value"] (spB ptB) := by
  refine F.ok scPt spB_len (fun cdv A outer s H vs Q E hr h => ?_)
  obtain ⟨v, d, rfl, dv, q⟩ := h
  obtain ⟨tt, hT⟩ := T.last
  refine ⟨_, pss_cons (ps_if (PW.pt (pw_or (pt_not (pt_val (pe_callB call_isi (by rfl) T.isi (by decide +kernel) (pa_cons (pv 0) (pa_cons (pe_bltn (v := .ty "tuple") (u := .type "tuple") (by rfl) T.tup (by decide +kernel) rfl) pa_nil)))))
      (pw_or1 (pt_cmpR op_ne (pe_callB call_len_seq (by rfl) T.len PySem.boot_len (pa_cons (pv 0) pa_nil)) pe_int (nomark _))))) (pss_one (ps_ret pe_bl)) pss_nil)
    (pss_cons (ps_asg (pv 0) (pg_tup rfl (pgs_cons (pg_name (i := 1) scPt.nd rfl (Or.inl rfl)) (pgs_cons (pg_name (i := 2) scPt.nd rfl (Or.inl rfl)) pgs_nil))))
    (pss_one (ps_ret (pe_and (pe_call GI (hr.mono (by decide)) rfl AI.g AI.k AI.b .nil pass0 (pa_cons (pv 1) pa_nil)) (pe_and (pe_call GI (hr.mono (by decide)) rfl AI.g AI.k AI.b .nil pass0 (pa_cons (pv 2) pa_nil))
      (pe_and (pe_chain op_le op_le pe_int (pv 1) (pe_glob (v := .int 30) rfl hT ⟨_, rfl⟩)) (pe_one (pe_chain op_le op_le pe_int (pv 2) (pe_glob (v := .int 30) rfl hT ⟨_, rfl⟩))))))))), ?_⟩
  refine ⟨_, rfl, _, .ty "tuple", .type (tyN d), .type "tuple", _, rfl, .ty _, ty_of dv, kit_ty (kit_tuple d), _, rfl, ?_⟩
  cases e : tupish d with
  | false =>
    have := q H (same0 H)
    rwa [ptB_pair (pair_tup e)] at this
  | true =>
    obtain ⟨ds, rfl⟩ := tupish_of e
    obtain ⟨a, xs, rfl, h1, r⟩ := dv_tup dv
    refine ⟨_, rfl, a, xs, rfl, .inr (sqt h1), rfl, _, rfl, ?_⟩
    cases e1 : (!decide (V.int (xs.length : Int) = V.int 2)) with
    | true =>
      have := q H (same0 H)
      rw [r.length] at e1
      rwa [ptB_pair (pair_nolen e1)] at this
    | false =>
      rw [r.length] at e1
      obtain ⟨da, db, rfl⟩ := pair_len e1
      obtain ⟨a', x, y, ea, h1', hx, hy⟩ := dv_pair dv
      cases ea
      refine ⟨_, rfl, a, _, rfl, sqt h1', rfl, _, _, rfl, _, _, rfl, rfl, ?_⟩
      refine ⟨_, rfl, x, da, rfl, hx, fun H2 s2 => ⟨_, rfl, ite2 (fun i1 => ?_) (fun i1 => ?_)⟩⟩
      · obtain ⟨i, rfl⟩ := int_of i1
        refine ⟨_, rfl, y, db, rfl, hy.more s2, fun H3 s3 => ⟨_, rfl, ite2 (fun i2 => ?_) (fun i2 => ?_)⟩⟩
        · obtain ⟨j, rfl⟩ := int_of i2
          have s13 : Same H H3 := fun b o e => s3 b o (s2 b o e)
          rw [dv_int hx, dv_int hy]
          have fin : ptB (.tuple [.int i, .int j]) = ((decide (0 ≤ i) && decide (i ≤ 30)) && (decide (0 ≤ j) && decide (j ≤ 30))) := rfl
          have q3 := q H3 s13
          rw [fin] at q3
          refine ⟨_, rfl, _, _, rfl, rfl, _, rfl, ite2 (fun c1 => ?_) (fun c1 => ?_)⟩
          · rw [c1, Bool.true_and] at q3
            refine ⟨_, _, rfl, rfl, _, rfl, ite2 (fun c2 => ?_) (fun c2 => ?_)⟩
            · rw [c2, Bool.true_and] at q3
              refine ⟨_, rfl, _, _, rfl, rfl, _, rfl, ite2 (fun c3 => ?_) (fun c3 => ?_)⟩
              · rw [c3, Bool.true_and] at q3
                exact ⟨_, _, rfl, rfl, q3⟩
              · rwa [(Bool.not_eq_true _).mp c3, Bool.false_and] at q3
            · rwa [(Bool.not_eq_true _).mp c2, Bool.false_and] at q3
          · rw [(Bool.not_eq_true _).mp c1, Bool.false_and, Bool.false_and] at q3
            exact ⟨_, rfl, q3⟩
        · have := q H3 fun b o e => s3 b o (s2 b o e)
          rwa [show ptB (.tuple [.int i, db]) = false from (by show (cooB _ && cooB db) = false; rw [coo_int ((Bool.not_eq_true _).mp i2), Bool.and_false])] at this
      · have := q H2 s2
        rwa [show ptB (.tuple [da, db]) = false from (by show (cooB da && cooB db) = false; rw [coo_int ((Bool.not_eq_true _).mp i1), Bool.false_and])] at this
end
/-! ### the tables -/
theorem isStr_of {e : DictEntry} {z k : Str} {n : Int} (h : He.keyOf e = some (k, n)) : e.key.isStr z = decide (k = z) ∧ e.refKey = false := by
  unfold He.keyOf at h
  split at h
  · rename_i x t q
    obtain ⟨rfl, -⟩ := Prod.mk.inj (Option.some.inj h)
    refine ⟨?_, ?_⟩
    · rw [q]
      show (x == z) = decide (x = z)
      rfl
    · unfold DictEntry.refKey
      rw [q]
  · cases h
theorem find_keys {z : Str} : ∀ {es : List DictEntry} {ks : List (Str × Int)}, es.map He.keyOf = ks.map some → (∀ e ∈ es, e.refKey = false) ∧ (es.find? (·.key.isStr z)).isSome = ks.any fun k => decide (k.1 = z)
  | [], [], _ => ⟨fun _ h => (nomatch h), rfl⟩
  | [], _ :: _, h => by cases h
  | e :: es, [], h => by cases h
  | e :: es, k :: ks, h => by
    have h1 : He.keyOf e :: es.map He.keyOf = some k :: ks.map some := h
    injection h1 with h2 h3
    obtain ⟨i1, i2⟩ := find_keys (z := z) h3
    obtain ⟨j1, j2⟩ := isStr_of (z := z) (k := k.1) (n := k.2) h2
    constructor
    · intro e' he
      rcases List.mem_cons.mp he with rfl | he
      · exact j2
      · exact i1 e' he
    · rw [List.find?_cons, List.any_cons, ← j1]
      cases e.key.isStr z with
      | true => rfl
      | false =>
        rw [Bool.false_or]
        exact i2
theorem nsIn_keys {K : PySem.W.Frag} {w : World} {a : Addr} {ks : List Str} (h : He.dicW K a = some (He.keysIn w.params ks)) (z : Str) : ∃ r, PySem.W.nsIn K a z = some r ∧ r.isSome = ks.any fun k => decide (k = z) := by
  obtain ⟨es, n, D⟩ := He.dicW_ok h
  have h2 : es.toList.map He.keyOf = (ks.map fun k => (k, PyData.keyHash w.params k)).map some := by
    unfold He.dicW at h
    rw [D.at_] at h
    have h' : (match !(a == sysModules) with
      | true => some (es.toList.map He.keyOf)
      | false => none) = some (He.keysIn w.params ks) := h
    rw [D.low] at h'
    have h3 : es.toList.map He.keyOf = He.keysIn w.params ks := Option.some.inj h'
    rw [h3, List.map_map]
    rfl
  obtain ⟨i1, i2⟩ := find_keys (z := z) h2
  have i3 : (es.toList.find? (·.key.isStr z)).isSome = ks.any fun k => decide (k = z) := by
    rw [i2, List.any_map]
    rfl
  have e0 : PySem.W.nsIn K a z = (match es.toList.find? (·.key.isStr z) with
      | some e => some (some e.val)
      | none => if es.toList.any (·.refKey) then none else some none) := by
    unfold PySem.W.nsIn
    rw [D.at_]
    rfl
  rw [e0]
  cases e : es.toList.find? (·.key.isStr z) with
  | some x =>
    rw [e] at i3
    exact ⟨some x.val, rfl, i3⟩
  | none =>
    rw [e] at i3
    refine ⟨none, ?_, i3⟩
    show (if es.toList.any (·.refKey) then none else some none) = some none
    rw [if_neg]
    intro q
    obtain ⟨x, hx, hr⟩ := List.any_eq_true.mp q
    rw [i1 x hx] at hr
    cases hr
theorem dirOf_any (z : Str) : (([("r" : Str), "u", "l", "d"] : List Str).any fun k : Str => decide (k = z)) = dirOf z := by
  have c : ∀ k : Str, decide (k = z) = decide (z = k) := fun k => by
    by_cases e : k = z
    · rw [decide_eq_true e, decide_eq_true e.symm]
    · rw [decide_eq_false e, decide_eq_false fun x => e x.symm]
  simp only [List.any_cons, List.any_nil, Bool.or_false, c]
  rfl
/-- the steps, as they stand -/
structure Steps (K : PySem.W.Frag) (w : World) (mg : Str → Option Value) (a : Addr) : Prop where
  g : mg "STEPS" = some (.ref a)
  d : He.dicW K a = some (He.keysIn w.params ["r", "u", "l", "d"])
theorem dir_cases {s : Str} (h : dirOf s = true) : s = "r" ∨ s = "u" ∨ s = "l" ∨ s = "d" := by
  unfold dirOf at h
  simp only [Bool.or_eq_true, decide_eq_true_eq] at h
  exact h

theorem stay {H : Hp} {a b : Addr} {o u : HO} (h : H b = some u) (n : H a = none) : upd H a o b = some u := by
  rw [upd_ne (ne_of_none h n)]
  exact h
section
variable {K : PySem.W.Frag}
theorem same_tr {a b c : Hp} (h : Same a b) (k : Same b c) : Same a c := fun x o e => k x o (h x o e)
/-- a written pair of ints -/
def pairK (K : PySem.W.Frag) (u : Option (Option Value)) (x y : Int) : Bool := match u with
  | some (some (.ref a)) => (match K.lookup a with
    | some ⟨.type c, _, .seq its _, _⟩ => (match its.toList with
      | [.int i _, .int j _] => decide (c = "tuple") && (decide (i = x) && decide (j = y))
      | _ => false)
    | _ => false)
  | _ => false
theorem pairK_of {u : Option (Option Value)} {x y : Int} (h : pairK K u x y = true) : ∃ t, u = some (some (.ref t)) ∧ ∀ H, SqT K H t [.int x, .int y] := by
  unfold pairK at h
  split at h
  · rename_i a
    split at h
    · rename_i c dd its n sl e
      split at h
      · rename_i i t1 j t2 e2
        simp only [Bool.and_eq_true, decide_eq_true_eq] at h
        obtain ⟨rfl, rfl, rfl⟩ := h
        refine ⟨a, rfl, fun H => .inr ⟨_, its, n, e, rfl, rfl, ?_, ?_⟩⟩
        · rw [← Array.length_toList, e2]
          show 2 ≤ sizeLine
          decide
        · rw [e2]
          exact .cons ⟨_, rfl⟩ (.cons ⟨_, rfl⟩ .nil)
      · cases h
    · cases h
  · cases h
def strK (u : Option (Option Value)) (x : Str) : Bool := match u with
  | some (some (.str y _)) => decide (y = x)
  | _ => false
theorem strK_of {u : Option (Option Value)} {x : Str} (h : strK u x = true) : ∃ t, u = some (some (.str x t)) := by
  unfold strK at h
  split at h
  · exact ⟨_, by rw [of_decide_eq_true h]⟩
  · cases h
end
structure Steps2 (K : PySem.W.Frag) (a : Addr) : Prop where
  r : pairK K (PySem.W.nsIn K a "r") 1 0 = true
  u : pairK K (PySem.W.nsIn K a "u") 0 1 = true
  l : pairK K (PySem.W.nsIn K a "l") (-1) 0 = true
  d : pairK K (PySem.W.nsIn K a "d") 0 (-1) = true
end T1
set_option Elab.async false
set_option linter.all false
set_option maxRecDepth 100000
set_option maxHeartbeats 16000000
namespace T1
open PySem PySem.Spec PyProof.Rows L2 Nv SX
/-- a text of signs, not long -/
def spCo : Sp := fun vs H Q _ => ∃ w : List Nat, vs = [.str (S w)] ∧ w.length ≤ 1000 ∧ Q (.bl (cwB w)) H
def spRP : Sp := fun vs H Q _ => ∃ u : List Nat, vs = [.str (S u)] ∧ u.length ≤ 1000 ∧ (nums u = none → ∀ H', Same H H' → Q .non H') ∧ (∀ p, nums u = some p → ∀ a H', Same H H' → H' a = some (.tup [.int p.1, .int p.2]) → Q (.ref a) H')
theorem num_txt (n : Nat) : V.str (Str.ofString (toString ((n : Nat) : Int))) = .str (S (TL.numL n)) := congrArg V.str (num_S n)
theorem dec_S (a b : List Nat) : decide (V.str (S a) = V.str (S b)) = decide (a = b) := by
  by_cases e : a = b
  · rw [decide_eq_true e, decide_eq_true (by rw [e])]
  · rw [decide_eq_false e, decide_eq_false fun z => e (S_inj (V.str.inj z))]
theorem small_log {n : Nat} (h : n ≤ 1000) : ((n : Nat) : Int).natAbs.log2 < 1920 := by
  rw [Int.natAbs_natCast]
  exact Nat.lt_of_le_of_lt (Nat.log2_le_self n) (by omega)
theorem digs_val {w : List Nat} (h : w.length ≤ 2) (d : w.all dig = true) : val w ≤ 99 := by
  rw [List.all_eq_true] at d
  have bnd : ∀ c, c ∈ w → 48 ≤ c ∧ c ≤ 57 := fun c hc => by
    have := Bool.and_eq_true_iff.mp (d c hc)
    exact ⟨of_decide_eq_true this.1, of_decide_eq_true this.2⟩
  rcases w with _ | ⟨a, _ | ⟨b, _ | ⟨c, r⟩⟩⟩
  · exact Nat.zero_le _
  · have ha := bnd a (by simp)
    obtain ⟨x, rfl⟩ : ∃ x : Fin 10, a = 48 + x.val := ⟨⟨a - 48, by omega⟩, by simp; omega⟩
    have : ∀ x : Fin 10, val [48 + x.val] ≤ 99 := by decide +kernel
    exact this x
  · have ha := bnd a (by simp)
    have hb := bnd b (by simp)
    obtain ⟨x, rfl⟩ : ∃ x : Fin 10, a = 48 + x.val := ⟨⟨a - 48, by omega⟩, by simp; omega⟩
    obtain ⟨y, rfl⟩ : ∃ y : Fin 10, b = 48 + y.val := ⟨⟨b - 48, by omega⟩, by simp; omega⟩
    have : ∀ x y : Fin 10, val [48 + x.val, 48 + y.val] ≤ 99 := by decide +kernel
    exact this x y
  · simp only [List.length_cons] at h
    omega
theorem size1000 {n : Nat} (h : n ≤ 1100) : n ≤ sizeLine := Nat.le_trans h (by decide)
theorem two_of {α : Type} {l : List α} (h : (!decide (V.int (l.length : Int) = V.int 2)) = false) : ∃ a b, l = [a, b] := by
  rcases l with _ | ⟨a, _ | ⟨b, _ | ⟨c, r0⟩⟩⟩
  · cases h
  · cases h
  · exact ⟨a, b, rfl⟩
  · have := of_decide_eq_true (by simpa using h : decide (V.int (((a :: b :: c :: r0).length : Nat) : Int) = V.int 2) = true)
    have := V.int.inj this
    simp only [List.length_cons] at this
    omega
theorem not_two {l : List (List Nat)} (h : (!decide (V.int (l.length : Int) = V.int 2)) = true) : ∀ a b, l ≠ [a, b] := by
  rintro a b rfl
  cases h
section
variable {P : Program} {w : World} {K : PySem.W.Frag} {mg : Str → Option Value} {base : Heap}
theorem scCo : FnScope ["word"] ["word"] (defScope (top 12)) := ⟨rfl, rfl, rfl, by decide +kernel, rfl, by decide +kernel, by decide +kernel⟩
theorem ok_coord {f : Addr} {fd : FuncData} (F : Fun K "_is_coordinate" "_is_coordinate" (top 12) f fd) (T : Ta mg) : FnOk P w K mg base CX0 1 f fd ["word"] spCo := by
  refine F.ok scCo (fun vs H Q E h => by obtain ⟨w, rfl, _⟩ := h; rfl) (fun cdv A outer s H vs Q E hr h => ?_)
  obtain ⟨w, rfl, hl, q⟩ := h
  obtain ⟨tt, hT⟩ := T.last
  refine ⟨_, pss_one (ps_ret (pe_and (pe_cmpR op_le (pe_callB call_len_str (by rfl) T.len PySem.boot_len (pa_cons (pv 0) pa_nil)) pe_int (nomark _))
    (pe_and (pe_bm0 PySem.F.plainAttrs_str PySem.F.slot_str_isascii PySem.F.type_str_isascii mt_isascii (pv 0))
    (pe_and (pe_bm0 PySem.F.plainAttrs_str PySem.F.slot_str_isdecimal PySem.F.type_str_isdecimal mt_isdecimal (pv 0))
    (pe_and (pe_cmpR op_eq (pe_callTy call_str_int (by rfl) T.str (by decide +kernel) (pa_cons (pe_callTy call_int_str (by rfl) T.int (by decide +kernel) (pa_cons (pv 0) pa_nil)) pa_nil)) (pv 0) (nomark _))
    (pe_one (pe_cmpR op_le (pe_callTy call_int_str (by rfl) T.int (by decide +kernel) (pa_cons (pv 0) pa_nil)) (pe_glob (v := .int 30) rfl hT ⟨_, rfl⟩) (nomark _)))))))), ?_⟩
  have sl := S_len w
  unfold cwB at q
  refine ⟨_, rfl, S w, rfl, by rw [sl]; exact size1000 (by omega), _, _, rfl, rfl, _, rfl, ite2 (fun c1 => ?_) (fun c1 => ?_)⟩
  · have c1 : w.length ≤ 2 := by
      have := of_decide_eq_true c1
      rw [sl] at this
      omega
    rw [decide_eq_true c1, Bool.true_and] at q
    refine ⟨_, rfl, rfl, S w, rfl, rfl, trivial, _, rfl, ite2 (fun c2 => ?_) (fun c2 => ?_)⟩
    · have c2 : w.all (· < 128) = true := by
        have : (S w).cps.all (· < 128) = true := c2
        rw [← Array.all_toList] at this
        exact this
      rw [c2, Bool.true_and] at q
      refine ⟨_, rfl, rfl, S w, rfl, rfl, trivial, _, rfl, ite2 (fun c3 => ?_) (fun c3 => ?_)⟩
      · have c3 : 0 < w.length ∧ w.all Unicode.isDecimal = true := by
          have z := Bool.and_eq_true_iff.mp (show (decide ((S w).length > 0) && (S w).cps.all Unicode.isDecimal) = true from c3)
          have z1 := of_decide_eq_true z.1
          have z2 := z.2
          rw [← Array.all_toList] at z2
          rw [sl] at z1
          exact ⟨z1, z2⟩
        rw [decide_eq_true c3.1, c3.2, Bool.true_and, Bool.true_and] at q
        have hv := cw_int c2 c3.2 c3.1 c1
        have v99 := digs_val c1 (dig_of c2 c3.2)
        refine ⟨_, rfl, S w, _, rfl, hv, by rw [sl]; omega, _, rfl, small_log (by omega), _, rfl, rfl, _, rfl, ?_⟩
        rw [num_txt, dec_S]
        refine ite2 (fun c4 => ?_) (fun c4 => ?_)
        · rw [c4, Bool.true_and] at q
          refine ⟨_, rfl, S w, _, rfl, hv, by rw [sl]; omega, _, _, rfl, rfl, ?_⟩
          show Q (.bl (decide (((val w : Nat) : Int) ≤ 30))) H
          rw [show decide (((val w : Nat) : Int) ≤ 30) = decide (val w ≤ 30) by
            by_cases e : val w ≤ 30
            · rw [decide_eq_true e, decide_eq_true (by omega)]
            · rw [decide_eq_false e, decide_eq_false (by omega)]]
          exact q
        · rwa [(Bool.not_eq_true _).mp c4, Bool.false_and] at q
      · have c3 : (decide (0 < w.length) && w.all Unicode.isDecimal) = false := by
          have z : (decide ((S w).length > 0) && (S w).cps.all Unicode.isDecimal) = false := (Bool.not_eq_true _).mp c3
          rw [← Array.all_toList, sl] at z
          exact z
        rwa [c3, Bool.false_and] at q
    · have c2 : w.all (· < 128) = false := by
        have z : (S w).cps.all (· < 128) = false := (Bool.not_eq_true _).mp c2
        rw [← Array.all_toList] at z
        exact z
      rwa [c2, Bool.false_and] at q
  · have c1 : ¬ w.length ≤ 2 := fun z => c1 (decide_eq_true (by rw [sl]; omega))
    rwa [decide_eq_false c1, Bool.false_and] at q
theorem scRP : FnScope ["text", "words"] ["text"] (defScope (top 11)) := ⟨rfl, rfl, rfl, by decide +kernel, rfl, by decide +kernel, by decide +kernel⟩
theorem nums_two {u a b : List Nat} (h : TL.spl [44] 0 [] u = [a, b]) : nums u = if cwB a = true then (if cwB b = true then some (((val a : Nat) : Int), ((val b : Nat) : Int)) else none) else none := by
  unfold nums
  rw [h]
theorem nums_not {u : List Nat} (h : ∀ a b, TL.spl [44] 0 [] u ≠ [a, b]) : nums u = none := by
  unfold nums
  split
  · rename_i a b e
    exact absurd e (h a b)
  · rfl
theorem spl_le {s : List Nat} : ∀ (l : List Nat) (k : Nat) (acc : List Nat) (M : Nat), acc.length + l.length ≤ M → ∀ x ∈ TL.spl s k acc l, x.length ≤ M
  | [], k, acc, M, h, x, hx => by
    rw [TL.spl_nil] at hx
    rw [List.mem_singleton.mp hx]
    simp only [List.length_nil] at h
    omega
  | c :: r, 0, acc, M, h, x, hx => by
    simp only [List.length_cons] at h
    unfold TL.spl at hx
    split at hx
    · rcases List.mem_cons.mp hx with rfl | hx
      · omega
      · exact spl_le r _ [] M (by simp only [List.length_nil]; omega) x hx
    · exact spl_le r 0 (acc ++ [c]) M (by rw [List.length_append, List.length_singleton]; omega) x hx
  | c :: r, k + 1, acc, M, h, x, hx => by
    simp only [List.length_cons] at h
    exact spl_le r k acc M (by omega) x hx
theorem ok_readp {f fC : Addr} {fd fdC : FuncData} (F : Fun K "_read_point" "_read_point" (top 11) f fd) (T : Ta mg) (GC : FnOk P w K mg base CX0 1 fC fdC ["word"] spCo) (AC : At K mg "_is_coordinate" fC fdC ["word"]) : FnOk P w K mg base CX0 2 f fd ["text"] spRP := by
  refine F.ok scRP (fun vs H Q E h => by obtain ⟨w, rfl, _⟩ := h; rfl) (fun cdv A outer s H vs Q E hr h => ?_)
  obtain ⟨u, rfl, hl, qn, qs⟩ := h
  refine ⟨_, pss_cons (ps_set (i := 1) scRP.nd rfl (Or.inl rfl) (pe_split (pv 0) pe_str))
    (pss_cons (ps_if (PW.pt (pw_or (pt_cmpR op_ne (pe_callB call_len_seq (by rfl) T.len PySem.boot_len (pa_cons (pv 1) pa_nil)) pe_int (nomark _))
      (pw_or (pt_not (pt_val (pe_call GC hr rfl AC.g AC.k AC.b .nil pass0 (pa_cons (pe_ix ix_list (pv 1) pe_int (fun _ _ => rfl)) pa_nil)))) (pw_or1 (pt_not (pt_val (pe_call GC hr rfl AC.g AC.k AC.b .nil pass0 (pa_cons (pe_ix ix_list (pv 1) pe_int (fun _ _ => rfl)) pa_nil)))))))) (pss_one (ps_ret pe_non)) pss_nil)
    (pss_one (ps_ret (pe_tup (pa_cons (pe_callTy call_int_str (by rfl) T.int (by decide +kernel) (pa_cons (pe_ix ix_list (pv 1) pe_int (fun _ _ => rfl)) pa_nil)) (pa_cons (pe_callTy call_int_str (by rfl) T.int (by decide +kernel) (pa_cons (pe_ix ix_list (pv 1) pe_int (fun _ _ => rfl)) pa_nil)) pa_nil)))))), ?_⟩
  have hsp : Txt.split (S u) (("," : Str)) = (TL.spl [44] 0 [] u).map S := split_S (b := [44]) (List.cons_ne_nil _ _) rfl
  refine ⟨_, rfl, ⟨_, rfl⟩, S u, _, rfl, rfl, rfl, by rw [S_len]; exact size1000 (by omega), fun l hn => ?_⟩
  rw [hsp]
  have sm : Same H (upd H l (.lst (((TL.spl [44] 0 [] u).map S).map V.str))) := fun b o e => stay e hn
  refine ⟨_, rfl, l, _, rfl, .inl (SqL.of upd_same), rfl, _, rfl, ?_⟩
  rw [List.length_map, List.length_map]
  cases e1 : (!decide (V.int (((TL.spl [44] 0 [] u).length : Nat) : Int) = V.int 2)) with
  | true => exact qn (nums_not (not_two e1)) _ sm
  | false =>
    obtain ⟨a, b, e2⟩ := two_of e1
    have hn2 := nums_two e2
    have la : a.length ≤ 1000 := spl_le u 0 [] 1000 (by simpa using hl) a (by rw [e2]; simp)
    have lb : b.length ≤ 1000 := spl_le u 0 [] 1000 (by simpa using hl) b (by rw [e2]; simp)
    have hq : (upd H l (.lst (((TL.spl [44] 0 [] u).map S).map V.str))) l = some (.lst [.str (S a), .str (S b)]) := by
      rw [upd_same, e2]
      rfl
    refine ⟨_, rfl, l, _, _, _, rfl, rfl, SqL.of hq, rfl, a, rfl, la, _, rfl, ?_⟩
    cases ca : cwB a with
    | false =>
      refine qn ?_ _ sm
      rw [hn2, ca]
      rfl
    | true =>
      refine ⟨_, rfl, l, _, _, _, rfl, rfl, SqL.of hq, rfl, b, rfl, lb, _, rfl, ?_⟩
      cases cb : cwB b with
      | false =>
        refine qn ?_ _ sm
        rw [hn2, ca, cb]
        rfl
      | true =>
        obtain ⟨_, _, ia, la2⟩ := cw_of ca
        obtain ⟨_, _, ib, lb2⟩ := cw_of cb
        refine ⟨_, rfl, l, _, _, _, rfl, rfl, SqL.of hq, rfl, S a, _, rfl, ia, by rw [S_len]; omega, _, rfl, l, _, _, _, rfl, rfl, SqL.of hq, rfl, S b, _, rfl, ib, by rw [S_len]; omega, (by show 2 ≤ sizeLine; decide), fun p hp => ?_⟩
        exact qs (((val a : Nat) : Int), ((val b : Nat) : Int)) (by rw [hn2, ca, cb]; rfl) p _ (fun b o e => stay (sm b o e) hp) upd_same
end
end T1
set_option Elab.async false
set_option linter.all false
set_option maxRecDepth 100000
set_option maxHeartbeats 16000000
namespace T1
open PySem PySem.Spec PyProof.Rows L2 Nv SX
abbrev sIni : Stmt := inClass (top 1) 0
theorem for_str {x : Str} {g : TG} {tb : TS} {D : Ends} {σ : L2.St} {H : Hp} (Pv : Nat → L2.St → Hp → Prop) (h0 : Pv 0 σ H)
    (hs : ∀ i c σ H, x.cps[i]? = some c → Pv i σ H → g (.str ⟨#[c]⟩) σ H fun σ2 H2 => tb { D with nx := Pv (i + 1), ct := Pv (i + 1), bk := D.nx } σ2 H2) (hd : ∀ σ H, Pv x.cps.size σ H → D.nx σ H) :
    ∃ W : Nat → Nat → L2.St → Hp → Prop, (∃ m, W 0 m σ H) ∧ ∀ i m σ H, W i m σ H →
      ((Its x).stop i H ∧ D.nx σ H) ∨ ((Its x).go i H ∧ ∃ N : L2.St → Hp → Prop, (∀ σ' H', N σ' H' → ∃ m', m' < m ∧ W (i + 1) m' σ' H') ∧ ∀ y H', (Its x).yld i H y H' → g y σ H' fun σ2 H2 => tb { D with nx := N, ct := N, bk := D.nx } σ2 H2) := by
  refine ⟨fun i m σ H => m = x.cps.size - i ∧ i ≤ x.cps.size ∧ Pv i σ H, ⟨x.cps.size, by simp, Nat.zero_le _, h0⟩, ?_⟩
  rintro i m σ H ⟨rfl, hi, p⟩
  by_cases hlt : i < x.cps.size
  · refine .inr ⟨hlt, Pv (i + 1), fun σ' H' h => ⟨_, by omega, rfl, by omega, h⟩, ?_⟩
    rintro y H' ⟨rfl, c, hc, rfl⟩
    exact hs i c σ _ hc p
  · have e : i = x.cps.size := by omega
    subst e
    exact .inl ⟨Nat.le_refl _, hd σ H p⟩


section
variable {P : Program} {w : World} {K : PySem.W.Frag} {mg : Str → Option Value} {base : Heap}
theorem okN {x qual : Str} {st : Stmt} {f : Addr} {fd : FuncData} {N ps : List Str} {k : Nat} {sp : Sp} (F : Fun K x qual st f fd) (S : FnScope N ps (defScope st)) (len : ∀ vs H Q E, sp vs H Q E → vs.length = ps.length)
    (hbody : ∀ (cdv : Value) (A : Around) (outer : List Env) (s : Shared) (H : Hp) (vs : List V) (Q : VK) (E : XK), Room k (A.deeper (envOfC qual (defScope st) s.heap.objs.size f cdv)) → sp vs H Q E →
      L2N.Takes (cxOf (L2N.CX P w) P w K mg base N qual (defScope st) f cdv A outer s H E) (fun cls d _ H => E cls d H) →
      ∃ t, PSs (cxOf (L2N.CX P w) P w K mg base N qual (defScope st) f cdv A outer s H E) (defBody st) t ∧ t { nx := fun _ H' => Q .non H', rt := Q } (start N vs) H) : FnOk P w K mg base (L2N.CX P w) (k + 1) f fd ps sp := by
  obtain ⟨oc, od, kV, doc, pm, an, cdv, ct, osl, rfl, lk, hcd⟩ := F.ex
  exact fn_of lk hcd S len fun A outer s H vs Q E hr hsp => hbody cdv A outer s H vs Q E hr hsp (L2N.takes_of rfl rfl rfl rfl)
theorem scIn : FnScope ["self", "value"] ["self", "value"] (defScope sIni) := ⟨rfl, rfl, rfl, by decide +kernel, rfl, by decide +kernel, by decide +kernel⟩
theorem ok_ini {f : Addr} {fd : FuncData} (F : Fun K "__init__" "NevercrossedError.__init__" sIni f fd) : FnOk P w K mg base CX0 1 f fd ["self", "value"] (spIni K) := by
  refine F.ok scIn (fun vs H Q E h => ?_) (fun cdv A outer s H vs Q E hr h => ?_)
  · obtain ⟨a, C, v, rfl, _⟩ := h
    rfl
  · obtain ⟨a, C, v, rfl, T, nv, nf, nc, ha, q⟩ := h
    refine ⟨_, pss_cons (ps_ost (pv 0) (pv 1)) (pss_one (ps_ost (pv 0) (pe_cname (pe_xcls (pv 0))))), _, rfl, _, rfl, a, C, rfl, T, nv, .inl ⟨ha, fun dx nd ne => ?_⟩⟩
    refine ⟨_, rfl, a, C, dx, _, rfl, nc, upd_same, (by rw [upd_ne ne]; exact upd_same), C, rfl, nc, fun n => ⟨_, rfl, a, C, rfl, T, nf, .inr ⟨dx, _, upd_same, (by rw [upd_ne ne]; exact upd_same), (by show 1 ≤ 900; decide), ?_⟩⟩⟩
    have z := q dx n nd ne
    rw [← ini_heap ne] at z
    exact z

end
section
variable {X : Cx}
theorem CallR.or {id : Value} {r1 r2 : List V → Hp → VK → Prop} (h1 : CallR X id r1) (h2 : CallR X id r2) : CallR X id (fun xs H Q => r1 xs H Q ∨ r2 xs H Q) := by
  intro pins s σ H xs us Q I r h
  rcases h with h | h
  · exact h1 pins s σ H xs us Q I r h
  · exact h2 pins s σ H xs us Q I r h
end
/-- what read_walk is given: a text or not -/
inductive Ask (K : PySem.W.Frag) (H : Hp) : V → Option (List Nat) → Prop
  | txt (t : List Nat) (l : t.length ≤ 1000) : Ask K H (.str (S t)) (some t)
  | dat {v : V} {d : PyData} (dv : DV H v d) (n : strish d = false) : Ask K H v none
  | exc {a C : Addr} (x : XIn H a C) (c : XCls K C) (k : PySem.W.kitOne K (.ref C) (.type "str") = some false) : Ask K H (.ref a) none
def stq : Option (List Nat) → List Nat × List Nat
  | some t => parts t
  | none => ([], [])
def askW : Option (List Nat) → Option (List Pt)
  | some t => walkOf t
  | none => none
theorem nums_nil : nums [] = none := by
  unfold nums
  rw [TL.spl_nil]
theorem ask_is (o : Option (List Nat)) : askW o = match nums (stq o).1 with
    | none => none
    | some p => if 0 < (stq o).2.length ∧ (stq o).2.length < 401 then walkIf p (stq o).2 else none := by
  cases o with
  | some t => rfl
  | none =>
    show none = match nums [] with
      | none => none
      | some p => if 0 < ([] : List Nat).length ∧ ([] : List Nat).length < 401 then walkIf p [] else none
    rw [nums_nil]
theorem parts_le (t : List Nat) : (parts t).1.length ≤ t.length ∧ (parts t).2.length ≤ t.length ∧ ∃ m, Txt.partition (S t) (S [32]) = (S (parts t).1, m, S (parts t).2) := by
  unfold parts
  by_cases h : 32 ∈ t
  · obtain ⟨p, q, rfl, n⟩ := cut_at h
    rw [partition_some (List.cons_ne_nil _ _) (par_cut n), par_cut n]
    refine ⟨?_, ?_, _, rfl⟩
    · show p.length ≤ _
      rw [List.length_append]
      omega
    · show q.length ≤ _
      rw [List.length_append, List.length_cons]
      omega
  · rw [partition_none (List.cons_ne_nil _ _) (TL.par_none1 h), TL.par_none1 h]
    exact ⟨Nat.le_refl _, Nat.zero_le _, _, rfl⟩
def endp (p : Pt) : List Nat → Pt
  | [] => p
  | c :: r => endp (nxt p c) r
theorem path_snoc : ∀ (p : Pt) (l : List Nat) (c : Nat), path p (l ++ [c]) = path p l ++ [nxt (endp p l) c]
  | p, [], c => rfl
  | p, d :: r, c => by
    show nxt p d :: path (nxt p d) (r ++ [c]) = _
    rw [path_snoc (nxt p d) r c]
    rfl
theorem endp_snoc : ∀ (p : Pt) (l : List Nat) (c : Nat), endp p (l ++ [c]) = nxt (endp p l) c
  | p, [], c => rfl
  | p, d :: r, c => endp_snoc (nxt p d) r c
theorem take_snoc {q : List Nat} {i c : Nat} (h : q[i]? = some c) : q.take (i + 1) = q.take i ++ [c] := by
  rw [List.take_add_one, h]
  rfl
theorem walk_bad {p : Pt} {q : List Nat} {i c : Nat} (h : q[i]? = some c) (n : dirc c = false) : walkIf p q = none := by
  unfold walkIf
  rw [if_neg]
  intro z
  rw [List.all_eq_true.mp z c (List.mem_of_getElem? h)] at n
  cases n
theorem dirs_all {q : List Nat} (h : ∀ (i c : Nat), q[i]? = some c → dirc c = true) : q.all dirc = true := by
  rw [List.all_eq_true]
  intro c hc
  obtain ⟨i, hi⟩ := List.mem_iff_getElem?.mp hc
  exact h i c hi
theorem ptD_on (p : Pt) : ptB (ptD p) = onP p := rfl
theorem dvs_snoc {H : Hp} : ∀ {xs : List V} {ds : List PyData} {v : V} {d : PyData}, DVs H xs ds → DV H v d → DVs H (xs ++ [v]) (ds ++ [d])
  | _, _, _, _, .nil, h => .cons h .nil
  | _, _, _, _, .cons g r, h => .cons g (dvs_snoc r h)
def del (H : Hp) (p : Addr) : Hp := fun b => if b = p then none else H b
theorem del_ne {H : Hp} {p b : Addr} (h : b ≠ p) : del H p b = H b := if_neg h
theorem del_same {H : Hp} {p : Addr} : del H p p = none := if_pos rfl
theorem of_del {H : Hp} {p : Addr} : Same (del H p) H := fun b o e => by
  by_cases h : b = p
  · rw [h, del_same] at e
    cases e
  · rwa [del_ne h] at e
theorem same_del {H H' : Hp} {p : Addr} (k : Same H H') : Same (del H p) (del H' p) := fun b o e => by
  by_cases h : b = p
  · rw [h, del_same] at e
    cases e
  · rw [del_ne h] at e ⊢
    exact k b o e
theorem del_upd {H : Hp} {p : Addr} {o : HO} : Same (del H p) (del (upd H p o) p) := fun b u e => by
  by_cases h : b = p
  · rw [h, del_same] at e
    cases e
  · rw [del_ne h] at e ⊢
    rw [upd_ne h]
    exact e
theorem del_of {H : Hp} {b p : Addr} {o : HO} (e : H b = some o) (n : b ≠ p) : del H p b = some o := by
  rw [del_ne n]
  exact e
theorem ne_of2 {H : Hp} {a b : Addr} {o : HO} (h : H a = some o) (n : H b = none) : b ≠ a := fun e => by
  rw [e, h] at n
  cases n
structure Tx (K : PySem.W.Frag) (mg : Str → Option Value) (C fI : Addr) : Prop where
  xc : Xc K C fI
  gl : mg "BadText" = some (.ref C)
def spRead (K : PySem.W.Frag) (C : Addr) : Sp := fun vs H Q E => ∃ v o, vs = [v] ∧ Ask K H v o ∧ (∀ l, askW o = some l → ∀ a xs H', Same H H' → H' a = some (.tup xs) → DVs H' xs (l.map ptD) → Q (.ref a) H') ∧
  (askW o = none → ∀ dx H', Same H H' → XD H' dx (.int 1) → E (.ref C) (some dx) H')
structure Tk (mg : Str → Option Value) : Prop where
  most : ∃ t, mg "MOST_POINTS" = some (.int 401 t)
  all : mg "all" = none
theorem dirOf_c (c : Nat) : dirOf ⟨#[c]⟩ = dirc c := by
  have e : ∀ (c n : Nat) (z : Str), z = ⟨#[n]⟩ → decide ((⟨#[c]⟩ : Str) = z) = decide (c = n) := by
    intro c n z hz
    rw [hz]
    by_cases h : c = n
    · rw [decide_eq_true h, decide_eq_true (by rw [h])]
    · rw [decide_eq_false h, decide_eq_false fun y => h ?_]
      have := congrArg (fun s : Str => s.cps.toList) y
      exact List.head_eq_of_cons_eq this
  unfold dirOf dirc
  rw [e c 114 "r" rfl, e c 117 "u" rfl, e c 108 "l" rfl, e c 100 "d" rfl]
theorem dir_cs {c : Nat} (h : dirc c = true) : c = 114 ∨ c = 117 ∨ c = 108 ∨ c = 100 := by
  unfold dirc at h
  simp only [Bool.or_eq_true, decide_eq_true_eq] at h
  exact h
theorem step_c {K : PySem.W.Frag} {a : Addr} (Z : Steps2 K a) {c : Nat} (h : dirc c = true) : ∃ t, PySem.W.nsIn K a ⟨#[c]⟩ = some (some (.ref t)) ∧ ∀ H, SqT K H t [.int (sxc c), .int (syc c)] := by
  rcases dir_cs h with rfl | rfl | rfl | rfl
  · exact pairK_of Z.r
  · exact pairK_of Z.u
  · exact pairK_of Z.l
  · exact pairK_of Z.d
section
variable {P : Program} {w : World} {K : PySem.W.Frag} {mg : Str → Option Value} {base : Heap} {C fI : Addr} {fdI : FuncData}
theorem scRW : FnScope ["text", "start", "_", "steps", "walk", "x", "y", "step", "step_x", "step_y", "point"] ["text"] (defScope (top 10)) := ⟨rfl, rfl, rfl, by decide +kernel, rfl, by decide +kernel, by decide +kernel⟩
def readR (a q : List Nat) : Option (List Pt) := match nums a with
  | none => none
  | some p => if 0 < q.length ∧ q.length < 401 then walkIf p q else none
theorem path_len : ∀ (p : Pt) (l : List Nat), (path p l).length = l.length
  | _, [] => rfl
  | p, c :: r => congrArg Nat.succ (path_len (nxt p c) r)
theorem read_some {a q : List Nat} {p : Pt} (h : nums a = some p) (l : 0 < q.length ∧ q.length < 401) : readR a q = walkIf p q := by
  unfold readR
  rw [h]
  exact if_pos l
theorem read_long {a q : List Nat} {p : Pt} (h : nums a = some p) (l : ¬ (0 < q.length ∧ q.length < 401)) : readR a q = none := by
  unfold readR
  rw [h]
  exact if_neg l
theorem read_none {a q : List Nat} (h : nums a = none) : readR a q = none := by
  unfold readR
  rw [h]
theorem tail_readw {f fR fP aS : Addr} {fdR fdP : FuncData} {cdv : Value} {A : Around} {outer : List Env} {s : Shared} {H : Hp} {E : XK} (hr : Room 3 (A.deeper (envOfC "read_walk" (defScope (top 10)) s.heap.objs.size f cdv)))
    (tk : L2N.Takes (cxOf (L2N.CX P w) P w K mg base ["text", "start", "_", "steps", "walk", "x", "y", "step", "step_x", "step_y", "point"] "read_walk" (defScope (top 10)) f cdv A outer s H E) (fun cls d _ H => E cls d H))
    (T : Ta mg) (U : Tk mg) (X : Tx K mg C fI) (GI : FnOk P w K mg base CX0 1 fI fdI ["self", "value"] (spIni K)) (bI : Binds K fdI ["self", "value"] [])
    (Z : Steps K w mg aS) (Z2 : Steps2 K aS) (GR : FnOk P w K mg base CX0 2 fR fdR ["text"] spRP) (AR : At K mg "_read_point" fR fdR ["text"]) (GP : FnOk P w K mg base CX0 3 fP fdP ["value"] (spB ptB)) (AP : At K mg "is_point" fP fdP ["value"]) :
    ∃ t, PSs (cxOf (L2N.CX P w) P w K mg base ["text", "start", "_", "steps", "walk", "x", "y", "step", "step_x", "step_y", "point"] "read_walk" (defScope (top 10)) f cdv A outer s H E) ((defBody (top 10)).drop 1) t ∧
      ∀ (Q : VK) (v mid : V) (a q : List Nat) (H1 : Hp), a.length ≤ 1000 → q.length ≤ 1000 → (∀ l, readR a q = some l → ∀ b xs H', Same H1 H' → H' b = some (.tup xs) → DVs H' xs (l.map ptD) → Q (.ref b) H') →
      (readR a q = none → ∀ dx H', Same H1 H' → XD H' dx (.int 1) → E (.ref C) (some dx) H') →
      t { nx := fun _ H' => Q .non H', rt := Q } [some v, some (.str (S a)), some mid, some (.str (S q)), none, none, none, none, none, none, none] H1 := by
  obtain ⟨es, n, D⟩ := He.dicW_ok Z.d
  obtain ⟨tm, hM⟩ := U.most
  refine ⟨_, (pss_cons (ps_set (i := 4) scRW.nd rfl (Or.inl rfl) (pe_lst (pa_cons (pe_call GR (hr.mono (by decide)) rfl AR.g AR.k AR.b .nil pass0 (pa_cons (pv 1) pa_nil)) pa_nil)))
    (pss_cons (ps_if (PW.pt (pw_or (pt_cmpR op_isN (pe_ix ix_list (pv 4) pe_int (fun _ _ => rfl)) pe_non (nomark _)) (pw_or1 (pt_not (pt_chain op_lt op_lt pe_int (pe_callB call_len_str (by rfl) T.len PySem.boot_len (pa_cons (pv 3) pa_nil)) (pe_glob (v := .int 401) rfl hM ⟨_, rfl⟩)))))) (pss_one (L2N.ps_raise rfl tk (pmk_mkx X.xc.mx GI (hr.mono (by decide)) bI rfl X.gl pe_int))) pss_nil)
    (pss_cons (ps_asg (pe_ix ix_list (pv 4) pe_int (fun _ _ => rfl)) (pg_tup rfl (pgs_cons (pg_name (i := 5) scRW.nd rfl (Or.inl rfl)) (pgs_cons (pg_name (i := 6) scRW.nd rfl (Or.inl rfl)) pgs_nil))))
    (pss_cons (ps_for (passes_of rfl) rfl (pi_str (pv 3)) (pg_name (i := 7) scRW.nd rfl (Or.inl rfl)) (pss_cons (ps_if (pt_cmpR (op_notIn_kd D) (pv 7) (pe_glob (v := .ref aS) rfl Z.g rfl) (by rfl)) (pss_one (L2N.ps_raise rfl tk (pmk_mkx X.xc.mx GI (hr.mono (by decide)) bI rfl X.gl pe_int))) pss_nil)
    (pss_cons (ps_asg (pe_ix ix_kdict (pe_glob (v := .ref aS) rfl Z.g rfl) (pv 7) (fun _ _ => rfl)) (pg_tup rfl (pgs_cons (pg_name (i := 8) scRW.nd rfl (Or.inl rfl)) (pgs_cons (pg_name (i := 9) scRW.nd rfl (Or.inl rfl)) pgs_nil))))
    (pss_cons (ps_par (i := 5) (j := 6) rfl scRW.nd rfl rfl (by decide) rfl rfl (pa_cons (pe_op op_add (pv 5) (pv 8)) (pa_cons (pe_op op_add (pv 6) (pv 9)) pa_nil)) rfl)
    (pss_one (ps_expr (pe_bm PySem.F.plainAttrs_list PySem.F.slot_list_append PySem.F.type_list_append mt_append (pv 4) (pa_cons (pe_tup (pa_cons (pv 5) (pa_cons (pv 6) pa_nil))) pa_nil))))))))
    (pss_cons (ps_if (pt_not (pt_val (pe_callB (cr_all rfl) (by rfl) U.all (by decide +kernel) (pa_cons (pe_lc (own := [("point", 10)]) (g := gName 10) (tt := tYes) rfl scRW.nd (pi_list (pv 4)) (blkOk_by (N := ["text", "start", "_", "steps", "walk", "x", "y", "step", "step_x", "step_y", "point"]) (sc := defScope (top 10)) (by decide +kernel)) (fun _ _ _ _ _ => pg_name (i := 10) scRW.nd rfl (Or.inl rfl)) (fun _ _ _ _ _ => pts_nil) (fun _ _ _ _ _ => pe_call GP hr rfl AP.g AP.k AP.b .nil pass0 (pa_cons (pv 10) pa_nil))) pa_nil)))) (pss_one (L2N.ps_raise rfl tk (pmk_mkx X.xc.mx GI (hr.mono (by decide)) bI rfl X.gl pe_int))) pss_nil)
    (pss_one (ps_ret (pe_tupleOf (by rfl) T.tup (pv 4))))))))), ?_⟩
  intro Q v mid a q H1 la lq qs qn
  refine ⟨_, rfl, a, rfl, la, fun hn H2 s2 => ⟨(by show 1 ≤ sizeLine; decide), fun L nL => ?_⟩, fun p hp b H2 s2 hb => ⟨(by show 1 ≤ sizeLine; decide), fun L nL => ?_⟩⟩
  · refine ⟨_, rfl, L, _, _, .non, rfl, rfl, SqL.of upd_same, rfl, rfl, _, rfl, ?_⟩
    refine ite2 (fun _ => ?_) (fun n => (n (decide_eq_true rfl)).elim)
    exact fun dx n nd => qn (read_none hn) dx _ (fun b o e => stay (stay (s2 b o e) nL) nd) XD.of
  have sL : Same H1 (upd H2 L (.lst [.ref b])) := fun c o e => stay (s2 c o e) nL
  have nL1 : H1 L = none := by
    cases e : H1 L with
    | none => rfl
    | some o =>
      rw [s2 _ _ e] at nL
      cases nL
  have nbL : b ≠ L := fun e => by
    rw [e, nL] at hb
    cases hb
  have hbL : upd H2 L (.lst [.ref b]) b = some (.tup [.int p.1, .int p.2]) := by
    rw [upd_ne nbL]
    exact hb
  refine ⟨_, rfl, L, _, _, .ref b, rfl, rfl, SqL.of upd_same, rfl, rfl, _, rfl, ?_⟩
  refine ite2 (fun z => nomatch (of_decide_eq_true z)) (fun _ => ?_)
  have bad : ∀ {H' : Hp}, Same H1 H' → readR a q = none → ∀ dx n, H' dx = none → E (.ref C) (some dx) (upd H' dx (.xd (xf n (.int 1)))) := fun s' hz dx n nd => qn hz dx _ (fun b o e => stay (s' b o e) nd) XD.of
  refine ⟨_, rfl, S q, rfl, by rw [S_len]; exact size1000 (by omega), _, _, rfl, rfl, _, rfl, ite2 (fun c1 => ?_) (fun c1 => ?_)⟩
  · have c1 : 0 < q.length := by
      have := of_decide_eq_true c1
      rw [S_len] at this
      omega
    refine ⟨_, _, rfl, rfl, _, rfl, ?_⟩
    cases c2 : decide (((S q).length : Int) < 401) with
    | false =>
      have c2 := of_decide_eq_false c2
      rw [S_len] at c2
      exact bad sL (read_long hp (by omega))
    | true =>
      have c2 := of_decide_eq_true c2
      rw [S_len] at c2
      have hR := read_some hp (q := q) ⟨c1, by omega⟩
      refine ⟨_, rfl, L, _, _, .ref b, rfl, rfl, SqL.of upd_same, rfl, b, _, rfl, sqt hbL, rfl, _, _, rfl, _, _, rfl, rfl, ?_⟩
      refine ⟨_, rfl, S q, rfl, for_str (fun i σ H' => ∃ (o7 o8 o9 o10 : Option V) (vs : List V), σ = [some v, some (.str (S a)), some mid, some (.str (S q)), some (.ref L), some (.int (endp p (q.take i)).1), some (.int (endp p (q.take i)).2), o7, o8, o9, o10] ∧
        Same H1 H' ∧ H' L = some (.lst vs) ∧ DVs (del H' L) vs ((p :: path p (q.take i)).map ptD) ∧ (∀ j c, j < i → q[j]? = some c → dirc c = true)) ?_ ?_ ?_⟩
      · refine ⟨_, _, _, _, [.ref b], rfl, sL, upd_same, ?_, fun j c hj => absurd hj (Nat.not_lt_zero _)⟩
        exact .cons (.tup (del_of hbL nbL) (.cons (.int _) (.cons (.int _) .nil))) .nil
      · rintro i c σ H3 hc ⟨o7, o8, o9, o10, vs, rfl, s3, hL, dvs, dirs⟩
        have hq : q[i]? = some c := by
          have : (S q).cps[i]? = some c := hc
          simpa using this
        obtain ⟨r, h1, h2⟩ := nsIn_keys Z.d ⟨#[c]⟩
        rw [dirOf_any, dirOf_c] at h2
        refine ⟨_, rfl, _, r, rfl, rfl, h1, _, rfl, ?_⟩
        rw [h2]
        cases hd : dirc c with
        | false => exact bad s3 (by rw [hR]; exact walk_bad hq hd)
        | true =>
          obtain ⟨t, ht, hsq⟩ := step_c Z2 hd
          refine ⟨_, rfl, aS, _, .ref t, rfl, rfl, ⟨es, n, _, D.at_, D.lit, ht, rfl⟩, t, _, rfl, hsq _, rfl, _, _, rfl, _, _, rfl, rfl, ?_⟩
          refine ⟨_, rfl, _, rfl, _, _, rfl, rfl, _, rfl, _, rfl, _, _, rfl, rfl, _, _, rfl, ?_⟩
          have ln := dvs.length
          rw [List.length_map, List.length_cons, path_len, List.length_take] at ln
          refine ⟨_, rfl, .inl ⟨rfl, _, SqL.of hL⟩, _, rfl, _, rfl, (by show 2 ≤ sizeLine; decide), fun a2 n2 => ⟨L, _, _, rfl, rfl, stay hL n2, Nat.lt_of_le_of_lt (show vs.length ≤ 1001 by omega) (by decide), ?_⟩⟩
          have nea : a2 ≠ L := ne_of2 hL n2
          refine ⟨some (.str ⟨#[c]⟩), some (.int (sxc c)), some (.int (syc c)), o10, vs ++ [.ref a2], ?_, ?_, upd_same, ?_, ?_⟩
          · rw [take_snoc hq, endp_snoc]
            rfl
          · intro b' o e
            have nb : b' ≠ L := fun z => by
              rw [z, nL1] at e
              cases e
            rw [upd_ne nb]
            exact stay (s3 b' o e) n2
          · rw [take_snoc hq, path_snoc]
            show DVs _ _ (((p :: path p (q.take i)) ++ [nxt (endp p (q.take i)) c]).map ptD)
            rw [List.map_append]
            refine dvs_snoc ((dvs.more (same_del fun b o e => stay e n2)).more del_upd) ?_
            refine .tup ?_ (.cons (.int _) (.cons (.int _) .nil))
            refine del_of ?_ nea
            rw [upd_ne nea]
            exact upd_same
          · intro j c' hj hj2
            by_cases e : j = i
            · subst e
              rw [hq] at hj2
              cases hj2
              exact hd
            · exact dirs j c' (by omega) hj2
      · rintro σ H3 ⟨o7, o8, o9, o10, vs, rfl, s3, hL, dvs, dirs⟩
        have sz : (S q).cps.size = q.length := S_len q
        rw [sz, List.take_length] at dvs
        rw [sz] at dirs
        have da : q.all dirc = true := dirs_all fun i c hc => dirs i c (List.getElem?_eq_some_iff.mp hc).1 hc
        have ln := dvs.length
        rw [List.length_map, List.length_cons, path_len] at ln
        refine ⟨_, rfl, L, rfl, ⟨_, SqL.of hL⟩, fun Dd nD => lc_list (K := K) (a := L) (xs := vs) (fun m H' => H' Dd = some (.lst (((((p :: path p q).take m).map onP)).map V.bl)) ∧ H' L = some (.lst vs) ∧ Same H3 H') ⟨upd_same, stay hL nD, fun b o e => stay e nD⟩ ?_ ?_ ?_⟩
        · rintro i H4 hi ⟨h4, h5, s4⟩
          exact SqL.of h5
        · rintro i x H4 hx ⟨h4, h5, s4⟩
          obtain ⟨d, hd, dv⟩ := dvs.at i x hx
          rw [List.getElem?_map] at hd
          obtain ⟨pt, hpt, rfl⟩ := Option.map_eq_some_iff.mp hd
          refine ⟨rfl, _, rfl, x, ptD pt, rfl, (dv.more of_del).more s4, fun H5 s5 => ⟨_, s5 _ _ h4, ?_, ?_, ?_, ?_⟩⟩
          · rw [List.length_map, List.length_map, List.length_take]
            exact Nat.lt_of_le_of_lt (show min i (p :: path p q).length ≤ 1001 by rw [List.length_cons, path_len]; omega) (by decide)
          · rw [upd_same, ptD_on, List.take_add_one, hpt]
            simp only [List.map_append, Option.toList_some, List.map_cons, List.map_nil]
          · have ne : L ≠ Dd := fun e => by
              rw [e, nD] at hL
              cases hL
            rw [upd_ne ne]
            exact s5 _ _ h5
          · intro b o e
            have ne : b ≠ Dd := fun y => by
              rw [y, nD] at e
              cases e
            rw [upd_ne ne]
            exact s5 b o (s4 b o e)
        · rintro H4 ⟨h4, h5, s4⟩
          have tk2 : (p :: path p q).take vs.length = p :: path p q := List.take_of_length_le (by rw [ln, List.length_cons, path_len]; omega)
          rw [tk2] at h4
          refine ⟨Dd, (p :: path p q).map onP, rfl, SqL.of h4, _, rfl, ?_⟩
          have s14 : Same H1 H4 := fun b o e => s4 b o (s3 b o e)
          have ea : ((p :: path p q).map onP).all id = (p :: path p q).all onP := by
            rw [List.all_map]
            rfl
          rw [ea]
          cases hall : (p :: path p q).all onP with
          | false =>
            refine bad s14 ?_
            rw [hR]
            unfold walkIf
            rw [if_pos da, if_neg (by rw [hall]; exact Bool.false_ne_true)]
          | true =>
            have hRR : readR a q = some (p :: path p q) := by
              rw [hR]
              unfold walkIf
              rw [if_pos da, if_pos hall]
            refine ⟨_, rfl, .inl ⟨L, vs, rfl, SqL.of h5, fun b' nb => ?_⟩⟩
            exact qs _ hRR b' _ _ (fun c o e => stay (s14 c o e) nb) upd_same (((dvs.more of_del).more s4).more fun c o e => stay e nb)
  · have c1 : ¬ 0 < q.length := fun z => c1 (decide_eq_true (by rw [S_len]; omega))
    exact ⟨_, rfl, bad sL (read_long hp (by omega))⟩
theorem ok_readw {f fR fP aS : Addr} {fd fdR fdP : FuncData} (F : Fun K "read_walk" "read_walk" (top 10) f fd) (T : Ta mg) (U : Tk mg) (X : Tx K mg C fI) (GI : FnOk P w K mg base CX0 1 fI fdI ["self", "value"] (spIni K)) (bI : Binds K fdI ["self", "value"] [])
    (Z : Steps K w mg aS) (Z2 : Steps2 K aS) (GR : FnOk P w K mg base CX0 2 fR fdR ["text"] spRP) (AR : At K mg "_read_point" fR fdR ["text"]) (GP : FnOk P w K mg base CX0 3 fP fdP ["value"] (spB ptB)) (AP : At K mg "is_point" fP fdP ["value"]) :
    FnOk P w K mg base (L2N.CX P w) 4 f fd ["text"] (spRead K C) := by
  refine okN F scRW (fun vs H Q E h => by obtain ⟨v, o, rfl, _⟩ := h; rfl) (fun cdv A outer s H vs Q E hr h tk => ?_)
  obtain ⟨v, ob, rfl, ask, qs, qn⟩ := h
  obtain ⟨es, n, D⟩ := He.dicW_ok Z.d
  obtain ⟨tm, hM⟩ := U.most
  obtain ⟨t, ht, go⟩ := tail_readw (P := P) (w := w) (K := K) (mg := mg) (base := base) (f := f) (cdv := cdv) (A := A) (outer := outer) (s := s) (H := H) (E := E) hr tk T U X GI bI Z Z2 GR AR GP AP
  refine ⟨_, pss_cons (ps_asg (pe_ifExp (pt_val (pe_callB (CallR.or call_isi call_isX) (by rfl) T.isi (by decide +kernel) (pa_cons (pv 0) (pa_cons (pe_bltn (v := .ty "str") (u := .type "str") (by rfl) T.str (by decide +kernel) rfl) pa_nil)))) (pe_partition (pv 0) pe_str) (pe_tup (pa_cons pe_str (pa_cons pe_str (pa_cons pe_str pa_nil))))) (pg_tup rfl (pgs_cons (pg_name (i := 1) scRW.nd rfl (Or.inl rfl)) (pgs_cons (pg_name (i := 2) scRW.nd rfl (Or.inl rfl)) (pgs_cons (pg_name (i := 3) scRW.nd rfl (Or.inl rfl)) pgs_nil))))) ht, ?_⟩
  rw [ask_is] at qs qn
  cases ask with
  | txt tx lt =>
    obtain ⟨l1, l2, m, hm⟩ := parts_le tx
    refine ⟨_, rfl, .inl ⟨_, .ty "str", .type "str", .type "str", true, rfl, .ty _, .base (.str _), kit_ty (by decide +kernel), _, rfl, _, rfl, ⟨_, rfl⟩, S tx, (" " : Str), rfl, rfl, rfl, by rw [S_len]; exact size1000 (by omega), fun p hp => ?_⟩⟩
    rw [show ((" " : Str)) = S [32] from rfl, hm]
    refine ⟨p, _, rfl, sqt upd_same, rfl, _, _, rfl, _, _, rfl, _, _, rfl, rfl, ?_⟩
    exact go Q _ (.str m) _ _ _ (by omega) (by omega) (fun l hl b xs H' s' => qs l hl b xs H' fun b o e => s' b o (stay e hp)) (fun hz dx H' s' => qn hz dx H' fun b o e => s' b o (stay e hp))
  | dat dv ns =>
    refine ⟨_, rfl, .inl ⟨_, .ty "str", .type _, .type "str", false, rfl, .ty _, ty_of dv, kit_ty (by rw [kit_str, ns]), _, rfl, (by show 3 ≤ sizeLine; decide), fun p hp => ?_⟩⟩
    refine ⟨p, _, rfl, sqt upd_same, rfl, _, _, rfl, _, _, rfl, _, _, rfl, rfl, ?_⟩
    exact go Q _ _ [] [] _ (by decide) (by decide) (fun l hl b xs H' s' => qs l hl b xs H' fun b o e => s' b o (stay e hp)) (fun hz dx H' s' => qn hz dx H' fun b o e => s' b o (stay e hp))
  | exc x c k =>
    refine ⟨_, rfl, .inr ⟨_, _, _, .type "str", false, rfl, x, c, .ty _, k, _, rfl, (by show 3 ≤ sizeLine; decide), fun p hp => ?_⟩⟩
    refine ⟨p, _, rfl, sqt upd_same, rfl, _, _, rfl, _, _, rfl, _, _, rfl, rfl, ?_⟩
    exact go Q _ _ [] [] _ (by decide) (by decide) (fun l hl b xs H' s' => qs l hl b xs H' fun b o e => s' b o (stay e hp)) (fun hz dx H' s' => qn hz dx H' fun b o e => s' b o (stay e hp))
end
end T1
set_option Elab.async false
set_option linter.all false
set_option maxRecDepth 100000
set_option maxHeartbeats 16000000
namespace T1
open PySem PySem.Spec PyProof.Rows L2 Nv SX
abbrev sCell : Stmt := top 14
abbrev sBox : Stmt := top 15
abbrev sTake : Stmt := top 16
/-- the box at p: its counter is at most m -/
def BoxAt (H : Hp) (p : Addr) (m : Int) : Prop := ∃ b0 b1 b2 : Int, H p = some (.lst [.int b0, .int b1, .int b2]) ∧ 0 ≤ b1 ∧ b1 < 2147483648 ∧ 0 ≤ b2 ∧ b2 ≤ m
/-- all but p is as it was -/
def But (p : Addr) (H H' : Hp) : Prop := ∀ c o, c ≠ p → H c = some o → H' c = some o

def spCell (K : PySem.W.Frag) : Sp := fun vs H Q _ => ∃ (a : Addr) (ns : List Int) (k : Int), vs = [.ref a, .int k] ∧ SqL K H a (ns.map V.int) ∧ 0 ≤ k ∧ k ≤ 100 ∧ ∀ n : Int, Q (.int n) H
def spBox : Sp := fun vs H Q _ => ∃ n : Int, vs = [.int n] ∧ ∀ p H', H p = none → Same H H' → BoxAt H' p 0 → Q (.ref p) H'
def spTake : Sp := fun vs H Q _ => ∃ (p : Addr) (m many : Int), vs = [.ref p, .int many] ∧ BoxAt H p m ∧ m ≤ 1000000 ∧ 0 < many ∧ many ≤ 100000 ∧
  ∀ r H', 0 ≤ r → r < many → BoxAt H' p (m + 1) → But p H H' → Q (.int r) H'

structure Txt0 (mg : Str → Option Value) : Prop where
  len : mg "len" = none
  max : mg "max" = none
section
variable {P : Program} {w : World} {K : PySem.W.Frag} {mg : Str → Option Value} {base : Heap}
theorem scCell : FnScope ["_law_script", "_law_k"] ["_law_script", "_law_k"] (defScope sCell) := ⟨rfl, rfl, rfl, by decide +kernel, rfl, by decide +kernel, by decide +kernel⟩
theorem ok_cell {f : Addr} {fd : FuncData} (F : Fun K "_law_cell_at" "_law_cell_at" sCell f fd) (T : Txt0 mg) : FnOk P w K mg base CX0 1 f fd ["_law_script", "_law_k"] (spCell K) := by
  refine F.ok scCell (fun vs H Q E h => ?_) (fun cdv A outer s H vs Q E hr h => ?_)
  · obtain ⟨a, ns, k, rfl, _⟩ := h
    rfl
  · obtain ⟨a, ns, k, rfl, hS, h0, h1, q⟩ := h
    refine ⟨_, pss_one (ps_ret (pe_ifExp (pt_cmpR op_lt (pv 1) (pe_callB call_len_seq (by rfl) T.len PySem.boot_len (pa_cons (pv 0) pa_nil)) (nomark _))
      (pe_ix ix_list (pv 0) (pv 1) (fun _ _ => rfl)) (pe_op op_add (pe_op op_mul pe_int (pv 1)) pe_int))), ?_⟩
    refine ⟨_, rfl, _, rfl, a, _, rfl, .inl hS, _, _, rfl, rfl, _, rfl, ?_⟩
    refine ite2 (fun lt => ?_) (fun _ => ?_)
    · have hl : k < ((ns.map V.int).length : Int) := of_decide_eq_true lt
      rw [List.length_map] at hl
      obtain ⟨j, rfl⟩ : ∃ j : Nat, k = j := ⟨k.toNat, by omega⟩
      have hj : j < ns.length := by omega
      refine ⟨_, rfl, _, rfl, a, _, _, .int ns[j], rfl, rfl, hS, atI_nat ?_, q _⟩
      rw [List.getElem?_map, List.getElem?_eq_getElem hj] <;> rfl
    · exact ⟨_, rfl, _, _, rfl, rfl, .inl ⟨by decide, by decide⟩, _, _, rfl, rfl, q _⟩

theorem scBox : FnScope ["_law_cell"] ["_law_cell"] (defScope sBox) := ⟨rfl, rfl, rfl, by decide +kernel, rfl, by decide +kernel, by decide +kernel⟩
theorem ok_box {f : Addr} {fd : FuncData} (F : Fun K "_law_box" "_law_box" sBox f fd) (T : Txt0 mg) : FnOk P w K mg base CX0 1 f fd ["_law_cell"] spBox := by
  refine F.ok scBox (fun vs H Q E h => ?_) (fun cdv A outer s H vs Q E hr h => ?_)
  · obtain ⟨n, rfl, _⟩ := h
    rfl
  · obtain ⟨n, rfl, q⟩ := h
    refine ⟨_, pss_one (ps_ret (pe_lst (pa_cons (pe_callB (call_max2 rfl) (by rfl) T.max (by decide +kernel) (pa_cons pe_int (pa_cons (pe_op op_sub (pv 0) (pe_op op_pow pe_int pe_int)) pa_nil)))
      (pa_cons (pe_op op_mod (pv 0) pe_int) (pa_cons pe_int pa_nil))))), ?_⟩
    refine ⟨_, rfl, _, _, rfl, rfl, ⟨by decide, by decide, by decide⟩, _, _, rfl, rfl, _, _, rfl, _, rfl, _, _, rfl, rfl, (by show (0 : Int) < 2147483629; decide), (by show 3 ≤ sizeLine; decide), fun p hp => ?_⟩
    refine q p _ hp (fun b o e => by rw [upd_ne (ne_of_none e hp)]; exact e) ⟨_, _, _, upd_same, ?_, ?_, by decide, by decide⟩ <;> omega

theorem scTake : FnScope ["_law_box_here", "_law_many", "_law_digit", "_law_mixed"] ["_law_box_here", "_law_many"] (defScope sTake) := ⟨rfl, rfl, rfl, by decide +kernel, rfl, by decide +kernel, by decide +kernel⟩
theorem ok_take {f : Addr} {fd : FuncData} (F : Fun K "_law_take" "_law_take" sTake f fd) (T : Ta mg) : FnOk P w K mg base CX0 1 f fd ["_law_box_here", "_law_many"] spTake := by
  refine F.ok scTake (fun vs H Q E h => ?_) (fun cdv A outer s H vs Q E hr h => ?_)
  · obtain ⟨p, m, many, rfl, _⟩ := h
    rfl
  · obtain ⟨p, m, many, rfl, ⟨b0, b1, b2, hp, l1, u1, l2, u2⟩, hm, m0, m1, q⟩ := h
    refine ⟨_, pss_cons (ps_if (pt_cmpR op_gt (pe_ix ix_list (pv 0) pe_int (fun _ _ => rfl)) pe_int (nomark _))
        (pss_cons (ps_set (i := 2) scTake.nd rfl (Or.inl rfl) (pe_op op_mod (pe_callTy call_int1 (by rfl) T.int (by decide +kernel) (pa_cons (pe_ix ix_list (pv 0) pe_int (fun _ _ => rfl)) pa_nil)) (pv 1)))
        (pss_cons (ps_asg (pe_op op_fdiv (pe_ix ix_list (pv 0) pe_int (fun _ _ => rfl)) (pv 1)) (pg_sub (pv 0) pe_int set_list))
        (pss_one (ps_ret (pv 2))))) pss_nil)
      (pss_cons (ps_asg (pe_op op_add (pe_ix ix_list (pv 0) pe_int (fun _ _ => rfl)) pe_int) (pg_sub (pv 0) pe_int set_list))
      (pss_cons (ps_set (i := 3) scTake.nd rfl (Or.inl rfl) (pe_op op_mod (pe_op op_pow (pe_callTy call_int1 (by rfl) T.int (by decide +kernel) (pa_cons (pe_op op_add (pe_op op_add (pe_ix ix_list (pv 0) pe_int (fun _ _ => rfl)) (pe_op op_mul pe_int (pe_ix ix_list (pv 0) pe_int (fun _ _ => rfl)))) pe_int) pa_nil)) pe_int) pe_int))
      (pss_cons (ps_set (i := 3) scTake.nd rfl (Or.inl rfl) (pe_op op_mod (pe_op op_pow (pe_callTy call_int1 (by rfl) T.int (by decide +kernel) (pa_cons (pe_op op_add (pv 3) (pe_op op_mul (pe_op op_mul pe_int (pe_ix ix_list (pv 0) pe_int (fun _ _ => rfl))) (pe_ix ix_list (pv 0) pe_int (fun _ _ => rfl)))) pa_nil)) pe_int) pe_int))
      (pss_one (ps_ret (pe_op op_mod (pe_op op_fdiv (pv 3) pe_int) (pv 1))))))), ?_⟩
    have i0 : ∀ {x y z : V}, atI [x, y, z] 0 = some x := rfl
    have i1 : ∀ {x y z : V}, atI [x, y, z] 1 = some y := rfl
    have i2 : ∀ {x y z : V}, atI [x, y, z] 2 = some z := rfl
    refine ⟨_, rfl, p, _, _, _, rfl, rfl, SqL.of hp, i0, _, _, rfl, rfl, _, rfl, ?_⟩
    refine ite2 (fun _ => ?_) (fun _ => ?_)
    · refine ⟨_, rfl, p, _, _, _, rfl, rfl, SqL.of hp, i0, .inl ⟨_, rfl, _, rfl, _, _, rfl, rfl, m0, ?_⟩⟩
      refine ⟨_, rfl, p, _, _, _, rfl, rfl, SqL.of hp, i0, _, rfl, _, _, rfl, rfl, ⟨m0, by omega⟩, _, rfl, p, _, _, 0, rfl, rfl, hp, rfl, ?_⟩
      refine ⟨_, rfl, q _ _ (Int.emod_nonneg _ (by omega)) (Int.emod_lt_of_pos _ m0) ⟨_, _, _, upd_same, l1, u1, l2, by omega⟩ fun c o ne e => ?_⟩
      rw [upd_ne ne]
      exact e
    · refine ⟨_, rfl, p, _, _, _, rfl, rfl, SqL.of hp, i2, _, _, rfl, rfl, _, rfl, p, _, _, 2, rfl, rfl, hp, rfl, ?_⟩
      have hq : upd H p (.lst ([V.int b0, .int b1, .int b2].set 2 (.int (b2 + 1)))) p = some (.lst [.int b0, .int b1, .int (b2 + 1)]) := upd_same
      refine ⟨_, rfl, p, _, _, _, rfl, rfl, SqL.of hq, i1, _, rfl, p, _, _, _, rfl, rfl, SqL.of hq, i2, _, _, rfl, rfl, .inl ⟨by decide, by decide⟩, _, _, rfl, rfl, _, _, rfl, rfl, .inl ⟨_, rfl, _, _, rfl, rfl, ⟨by decide, by decide, by omega⟩, _, _, rfl, rfl, (by show (0 : Int) < 2147483647; decide), ?_⟩⟩
      have z1 : ∀ x : Int, 0 ≤ x % 2147483647 ∧ x % 2147483647 < 2147483647 := fun x => ⟨Int.emod_nonneg _ (by decide), Int.emod_lt_of_pos _ (by decide)⟩
      generalize hn : ((b1 + 15486071 * (b2 + 1) + 307) ^ (5 : Int).toNat) % 2147483647 = n1
      have b1' := z1 ((b1 + 15486071 * (b2 + 1) + 307) ^ (5 : Int).toNat)
      rw [hn] at b1'
      have bb : 0 ≤ 100151 * (b2 + 1) * (b2 + 1) ∧ 100151 * (b2 + 1) * (b2 + 1) ≤ 100151 * 1000001 * 1000001 := by
        have h1 : 0 ≤ 100151 * (b2 + 1) := by omega
        have h2 : 100151 * (b2 + 1) ≤ 100151 * 1000001 := by omega
        refine ⟨Int.mul_nonneg h1 (by omega), ?_⟩
        exact Int.mul_le_mul h2 (by omega) (by omega) (by decide)
      refine ⟨_, rfl, _, rfl, p, _, _, _, rfl, rfl, SqL.of hq, i2, _, _, rfl, rfl, .inl ⟨by decide, by decide⟩, _, rfl, p, _, _, _, rfl, rfl, SqL.of hq, i2, _, _, rfl, rfl, .inr ⟨by omega, by omega⟩, _, _, rfl, rfl, .inl ⟨_, rfl, _, _, rfl, rfl, ⟨by decide, by decide, by omega⟩, _, _, rfl, rfl, (by show (0 : Int) < 2147483587; decide), ?_⟩⟩
      refine ⟨_, rfl, _, _, rfl, rfl, ⟨by decide, by decide⟩, _, rfl, _, _, rfl, rfl, m0, ?_⟩
      refine q _ _ (Int.emod_nonneg _ (by omega)) (Int.emod_lt_of_pos _ m0) ⟨_, _, _, hq, l1, u1, by omega, by omega⟩ fun c o ne e => ?_
      rw [upd_ne ne]
      exact e
theorem scSt : FnScope ["_law_point", "_law_sign", "_law_x", "_law_y"] ["_law_point", "_law_sign"] (defScope (top 17)) := ⟨rfl, rfl, rfl, by decide +kernel, rfl, by decide +kernel, by decide +kernel⟩
def spStep : Sp := fun vs H Q _ => ∃ (a : Addr) (x y : Int) (c : Nat), vs = [.ref a, .str (S [c])] ∧ H a = some (.tup [.int x, .int y]) ∧ dirc c = true ∧ ∀ b H', Same H H' → H' b = some (.tup [.int (x + sxc c), .int (y + syc c)]) → Q (.ref b) H'
theorem ok_step {f : Addr} {fd : FuncData} (F : Fun K "_law_step" "_law_step" (top 17) f fd) : FnOk P w K mg base CX0 1 f fd ["_law_point", "_law_sign"] spStep := by
  refine F.ok scSt (fun vs H Q E h => by obtain ⟨a, x, y, c, rfl, _⟩ := h; rfl) (fun cdv A outer s H vs Q E hr h => ?_)
  obtain ⟨a, x, y, c, rfl, ha, hc, q⟩ := h
  refine ⟨_, pss_cons (ps_asg (pv 0) (pg_tup rfl (pgs_cons (pg_name (i := 2) scSt.nd rfl (Or.inl rfl)) (pgs_cons (pg_name (i := 3) scSt.nd rfl (Or.inl rfl)) pgs_nil))))
    (pss_one (ps_ret (pe_ix ix_list (pe_lst (pa_cons (pe_tup (pa_cons (pe_op op_add (pv 2) pe_int) (pa_cons (pv 3) pa_nil))) (pa_cons (pe_tup (pa_cons (pv 2) (pa_cons (pe_op op_add (pv 3) pe_int) pa_nil)))
      (pa_cons (pe_tup (pa_cons (pe_op op_sub (pv 2) pe_int) (pa_cons (pv 3) pa_nil))) (pa_cons (pe_tup (pa_cons (pv 2) (pa_cons (pe_op op_sub (pv 3) pe_int) pa_nil))) pa_nil)))))
      (pe_bm PySem.F.plainAttrs_str PySem.F.slot_str_index PySem.F.type_str_index mt_sindex pe_str (pa_cons (pv 1) pa_nil)) (fun _ _ => rfl)))), ?_⟩
  refine ⟨_, rfl, a, _, rfl, sqt ha, rfl, _, _, rfl, _, _, rfl, rfl, ?_⟩
  refine ⟨_, rfl, _, _, rfl, rfl, _, rfl, (by show 2 ≤ sizeLine; decide), fun a1 n1 => ⟨_, rfl, _, rfl, _, _, rfl, rfl, (by show 2 ≤ sizeLine; decide), fun a2 n2 => ⟨_, rfl, _, _, rfl, rfl, _, rfl, (by show 2 ≤ sizeLine; decide), fun a3 n3 => ⟨_, rfl, _, rfl, _, _, rfl, rfl, (by show 2 ≤ sizeLine; decide), fun a4 n4 => ⟨(by show 4 ≤ sizeLine; decide), fun l nl => ?_⟩⟩⟩⟩⟩
  have sm : Same H (upd (upd (upd (upd (upd H a1 (.tup [.int (x + 1), .int y])) a2 (.tup [.int x, .int (y + 1)])) a3 (.tup [.int (x - 1), .int y])) a4 (.tup [.int x, .int (y - 1)])) l (.lst [.ref a1, .ref a2, .ref a3, .ref a4])) :=
    fun b o e => stay (stay (stay (stay (stay e n1) n2) n3) n4) nl
  have e0 : x + 0 = x := Int.add_zero x
  have e1 : y + 0 = y := Int.add_zero y
  have e2 : x + -1 = x - 1 := rfl
  have e3 : y + -1 = y - 1 := rfl
  rcases dir_cs hc with rfl | rfl | rfl | rfl
  · refine ⟨rfl, _, rfl, _, _, 0, [], rfl, rfl, by decide +kernel, l, _, _, .ref a1, rfl, rfl, SqL.of upd_same, rfl, q a1 _ sm ?_⟩
    rw [show sxc 114 = 1 from rfl, show syc 114 = 0 from rfl, e1]
    exact stay (stay (stay (stay upd_same n2) n3) n4) nl
  · refine ⟨rfl, _, rfl, _, _, 1, [], rfl, rfl, by decide +kernel, l, _, _, .ref a2, rfl, rfl, SqL.of upd_same, rfl, q a2 _ sm ?_⟩
    rw [show sxc 117 = 0 from rfl, show syc 117 = 1 from rfl, e0]
    exact stay (stay (stay upd_same n3) n4) nl
  · refine ⟨rfl, _, rfl, _, _, 2, [], rfl, rfl, by decide +kernel, l, _, _, .ref a3, rfl, rfl, SqL.of upd_same, rfl, q a3 _ sm ?_⟩
    rw [show sxc 108 = -1 from rfl, show syc 108 = 0 from rfl, e1, e2]
    exact stay (stay upd_same n4) nl
  · refine ⟨rfl, _, rfl, _, _, 3, [], rfl, rfl, by decide +kernel, l, _, _, .ref a4, rfl, rfl, SqL.of upd_same, rfl, q a4 _ sm ?_⟩
    rw [show sxc 100 = 0 from rfl, show syc 100 = -1 from rfl, e0, e3]
    exact stay upd_same nl
theorem scNu : FnScope ["_law_word", "_law_number_here"] ["_law_word"] (defScope (top 18)) := ⟨rfl, rfl, rfl, by decide +kernel, rfl, by decide +kernel, by decide +kernel⟩
def numV (w : List Nat) : V := if cwB w = true then .int ((val w : Nat) : Int) else .non
def spNum : Sp := fun vs H Q _ => ∃ w : List Nat, vs = [.str (S w)] ∧ w.length ≤ 1000 ∧ ∀ H', Same H H' → Q (numV w) H'
def txts (n : Nat) : List V := (List.range n).map fun k => V.str (S (TL.numL k))
theorem inV_num (w : List Nat) : inV (.str (S w)) (txts 31) = cwB w := by
  rw [Bool.eq_iff_iff, cw_iff]
  unfold inV txts
  rw [List.any_map, List.any_eq_true]
  constructor
  · rintro ⟨n, hn, e⟩
    have e : (S (TL.numL n) == S w) = true := e
    exact ⟨n, List.mem_range.mp hn, S_inj (beq_iff_eq.mp e)⟩
  · rintro ⟨n, hn, e⟩
    refine ⟨n, List.mem_range.mpr hn, ?_⟩
    show (S (TL.numL n) == S w) = true
    rw [e]
    exact beq_iff_eq.mpr rfl
structure Tb (mg : Str → Option Value) : Prop where
  rng : mg "range" = none
theorem ok_num {f : Addr} {fd : FuncData} (F : Fun K "_law_number" "_law_number" (top 18) f fd) (T : Ta mg) (B : Tb mg) : FnOk P w K mg base CX0 1 f fd ["_law_word"] spNum := by
  refine F.ok scNu (fun vs H Q E h => by obtain ⟨w, rfl, _⟩ := h; rfl) (fun cdv A outer s H vs Q E hr h => ?_)
  obtain ⟨w, rfl, hl, q⟩ := h
  refine ⟨_, pss_one (ps_ret (pe_ifExp (pt_cmpR op_in_seq (pv 0) (pe_lc (own := [("_law_number_here", 1)]) (g := gName 1) (tt := tYes) rfl scNu.nd (pi_range1 rfl B.rng (pa_cons pe_int pa_nil)) (blkOk_by (N := ["_law_word", "_law_number_here"]) (sc := defScope (top 18)) (by decide +kernel))
    (fun _ _ _ _ _ => pg_name (i := 1) scNu.nd rfl (Or.inl rfl)) (fun _ _ _ _ _ => pts_nil) (fun _ _ _ _ _ => pe_callTy call_str_int (by rfl) T.str (by decide +kernel) (pa_cons (pv 1) pa_nil))) (by rfl))
    (pe_callTy call_int_str (by rfl) T.int (by decide +kernel) (pa_cons (pv 0) pa_nil)) pe_non)), ?_⟩
  refine ⟨_, rfl, 31, rfl, by decide, by decide, fun Dd nD => lc_range (lo := 0) (n := 31) (fun m H' => H' Dd = some (.lst (txts m)) ∧ Same H H') ⟨upd_same, fun b o e => stay e nD⟩ ?_ ?_⟩
  · rintro m H2 hm ⟨h2, s2⟩
    refine ⟨rfl, _, rfl, _, rfl, ?_, _, h2, ?_, ?_, ?_⟩
    · rw [Int.zero_add]
      exact small_log (by omega)
    · unfold txts
      rw [List.length_map, List.length_range]
      exact Nat.lt_of_lt_of_le hm (by decide)
    · rw [upd_same, Int.zero_add]
      unfold txts
      rw [List.range_succ, List.map_append, num_txt]
      rfl
    · intro b o e
      have ne : b ≠ Dd := fun y => by
        rw [y, nD] at e
        cases e
      rw [upd_ne ne]
      exact s2 b o e
  · rintro H2 ⟨h2, s2⟩
    have q2 := q H2 s2
    unfold numV at q2
    refine ⟨Dd, _, rfl, .inl (SqL.of h2), rfl, ?_, _, rfl, ?_⟩
    · unfold txts
      rw [List.all_map, List.all_eq_true]
      exact fun _ _ => rfl
    · rw [if_neg (by decide), inV_num]
      refine ite2 (fun c => ?_) (fun c => ?_)
      · rw [if_pos c] at q2
        obtain ⟨_, _, hi, h2'⟩ := cw_of c
        exact ⟨_, rfl, S w, _, rfl, hi, by rw [S_len]; omega, q2⟩
      · rwa [if_neg c] at q2
end
end T1
set_option Elab.async false
set_option linter.all false
set_option maxRecDepth 100000
set_option maxHeartbeats 16000000
namespace T1
open PySem PySem.Spec PyProof.Rows L2 Nv SX
theorem due_two {t u q : List Nat} (h : TL.spl [32] 0 [] t = [u, q]) : dueOf t = if q.length = 0 ∨ 400 < q.length then none else (match nums u with
    | none => none
    | some p => walkIf p q) := by
  unfold dueOf
  rw [h] <;> rfl
theorem due_not {t : List Nat} (h : ∀ a b, TL.spl [32] 0 [] t ≠ [a, b]) : dueOf t = none := by
  unfold dueOf
  split
  · rename_i a b e
    exact absurd e (h a b)
  · rfl
theorem path_app : ∀ (p : Pt) (l r : List Nat), path p (l ++ r) = path p l ++ path (endp p l) r
  | p, [], r => rfl
  | p, c :: l, r => by
    show nxt p c :: path (nxt p c) (l ++ r) = _
    rw [path_app (nxt p c) l r]
    rfl
theorem path_last : ∀ (p : Pt) (l : List Nat), ∃ m, p :: path p l = m ++ [endp p l]
  | p, [] => ⟨[], rfl⟩
  | p, c :: r => by
    obtain ⟨m, e⟩ := path_last (nxt p c) r
    exact ⟨p :: m, by show p :: (nxt p c :: path (nxt p c) r) = _; rw [e]; rfl⟩
theorem walk_off {p : Pt} {q : List Nat} {i c : Nat} (h : q[i]? = some c) (n : onP (nxt (endp p (q.take i)) c) = false) : walkIf p q = none := by
  unfold walkIf
  by_cases d : q.all dirc = true
  · rw [if_pos d, if_neg]
    intro z
    have hm : nxt (endp p (q.take i)) c ∈ path p q := by
      have e : path p q = path p (q.take (i + 1)) ++ path (endp p (q.take (i + 1))) (q.drop (i + 1)) := by rw [← path_app, List.take_append_drop]
      rw [e, take_snoc h, path_snoc]
      exact List.mem_append_left _ (List.mem_append_right _ (List.mem_singleton.mpr rfl))
    rw [List.all_eq_true.mp z _ (List.mem_cons_of_mem _ hm)] at n
    cases n
  · rw [if_neg d]
theorem walk_ok {p : Pt} {q : List Nat} (d : q.all dirc = true) (h : ∀ x ∈ p :: path p q, onP x = true) : walkIf p q = some (p :: path p q) := by
  unfold walkIf
  rw [if_pos d, if_pos (List.all_eq_true.mpr h)]
theorem dvs_last {H : Hp} : ∀ {vs : List V} {ds : List PyData} {d : PyData}, DVs H vs (ds ++ [d]) → ∃ us v, vs = us ++ [v] ∧ DV H v d
  | _, [], d, h => by
    cases h with
    | cons h1 r =>
      cases r
      exact ⟨[], _, rfl, h1⟩
  | _, e :: ds, d, h => by
    cases h with
    | cons h1 r =>
      obtain ⟨us, v, rfl, dv⟩ := dvs_last (ds := ds) r
      exact ⟨_ :: us, v, rfl, dv⟩
theorem at_last {us : List V} {v : V} : atI (us ++ [v]) (-1) = some v := by
  have e : ixN (us ++ [v]).length (-1) = some us.length := by
    unfold ixN
    rw [if_neg (by decide), if_pos (by rw [List.length_append, List.length_singleton]; omega), List.length_append, List.length_singleton]
    congr 1
    omega
  unfold atI
  rw [e]
  show (us ++ [v])[us.length]? = _
  rw [List.getElem?_append_right (Nat.le_refl _), Nat.sub_self]
  rfl
theorem sgn_in (c : Nat) : decide (c ∈ ("ruld" : Str).cps.toList) = dirc c := by
  show decide (c ∈ [114, 117, 108, 100]) = _
  unfold dirc
  rw [Bool.eq_iff_iff]
  simp only [List.mem_cons, List.not_mem_nil, or_false, decide_eq_true_eq, Bool.or_eq_true]
def spDue : Sp := fun vs H Q _ => ∃ t : List Nat, vs = [.str (S t)] ∧ t.length ≤ 1000 ∧ (dueOf t = none → ∀ H', Same H H' → Q .non H') ∧ (∀ l, dueOf t = some l → ∀ b xs H', Same H H' → H' b = some (.tup xs) → DVs H' xs (l.map ptD) → Q (.ref b) H')
section
variable {P : Program} {w : World} {K : PySem.W.Frag} {mg : Str → Option Value} {base : Heap}
theorem scDu : FnScope ["_law_text", "_law_words", "_law_numbers", "_law_found", "_law_sign", "_law_point", "_law_word"] ["_law_text"] (defScope (top 19)) := ⟨rfl, rfl, rfl, by decide +kernel, rfl, by decide +kernel, by decide +kernel⟩
abbrev XD (P : Program) (w : World) (K : PySem.W.Frag) (mg : Str → Option Value) (base : Heap) (f : Addr) (cdv : Value) (A : Around) (outer : List Env) (s : Shared) (H0 : Hp) (E : XK) : Cx := (cxOf CX0 P w K mg base ["_law_text", "_law_words", "_law_numbers", "_law_found", "_law_sign", "_law_point", "_law_word"] "_law_due" (defScope (top 19)) f cdv A outer s H0 E).nox
theorem tail_due {f fS : Addr} {fdS : FuncData} {cdv : Value} {A : Around} {outer : List Env} {s : Shared} {H0 : Hp} {E : XK} (hr : Room 1 (A.deeper (envOfC "_law_due" (defScope (top 19)) s.heap.objs.size f cdv))) (T : Ta mg)
    (GS : FnOk P w K mg base CX0 1 fS fdS ["_law_point", "_law_sign"] spStep) (AS : At K mg "_law_step" fS fdS ["_law_point", "_law_sign"]) :
    ∃ t, PSs (XD P w K mg base f cdv A outer s H0 E) ((defBody (top 19)).drop 5) t ∧ ∀ (Q : VK) (v0 v2 : V) (W L : Addr) (u q : List Nat) (p : Pt) (b : Addr) (H1 : Hp), q.length ≤ 1000 → onP p = true → H1 W = some (.lst [.str (S u), .str (S q)]) → H1 L = some (.lst [.ref b]) → b ≠ L → W ≠ L → H1 b = some (.tup [.int p.1, .int p.2]) →
      (walkIf p q = none → ∀ H', Same (del H1 L) H' → Q .non H') → (∀ l, walkIf p q = some l → ∀ c xs H', Same (del H1 L) H' → H' c = some (.tup xs) → DVs H' xs (l.map ptD) → Q (.ref c) H') →
      t { nx := fun _ H' => Q .non H', rt := Q } [some v0, some (.ref W), some v2, some (.ref L), none, none, none] H1 := by
  refine ⟨_, (pss_cons (ps_for PassesOwn.never rfl (pi_str (pe_ix ix_list (pv 1) pe_int (fun _ _ => rfl))) (pg_name (i := 4) scDu.nd rfl (Or.inl rfl)) (pss_cons (ps_if (pt_cmpR op_notIn_sign (pv 4) pe_str (by rfl)) (pss_one (ps_ret pe_non)) pss_nil)
    (pss_cons (ps_set (i := 5) scDu.nd rfl (Or.inl rfl) (pe_call GS (hr.mono (by decide)) rfl AS.g AS.k AS.b .nil pass0 (pa_cons (pe_ix ix_list (pv 3) (pe_un un_neg pe_int) (fun _ _ => rfl)) (pa_cons (pv 4) pa_nil))))
    (pss_cons (ps_if (PW.pt (pw_or (pt_not (pt_chain op_le op_lt pe_int (pe_ix ix_tup (pv 5) pe_int (fun _ _ => rfl)) pe_int)) (pw_or1 (pt_not (pt_chain op_le op_lt pe_int (pe_ix ix_tup (pv 5) pe_int (fun _ _ => rfl)) pe_int))))) (pss_one (ps_ret pe_non)) pss_nil)
    (pss_one (ps_expr (pe_bm PySem.F.plainAttrs_list PySem.F.slot_list_append PySem.F.type_list_append mt_append (pv 3) (pa_cons (pv 5) pa_nil))))))))
    (pss_one (ps_ret (pe_tupleOf (by rfl) T.tup (pv 3))))), ?_⟩
  intro Q v0 v2 W L u q p b H1 lq on hW hL nb nW hb qn qs
  have dmor : ∀ {H' : Hp}, Same (del H1 L) (del H' L) → Same (del H1 L) H' := fun k b o e => of_del b o (k b o e)
  refine ⟨_, rfl, W, _, _, _, rfl, rfl, SqL.of hW, rfl, S q, rfl, for_str (fun i σ H' => ∃ (o4 o5 o6 : Option V) (vs : List V), σ = [some v0, some (.ref W), some v2, some (.ref L), o4, o5, o6] ∧ Same (del H1 L) (del H' L) ∧ H' L = some (.lst vs) ∧ DVs (del H' L) vs ((p :: path p (q.take i)).map ptD) ∧
    (∀ x ∈ p :: path p (q.take i), onP x = true) ∧ (∀ (j c : Nat), j < i → q[j]? = some c → dirc c = true)) ?_ ?_ ?_⟩
  · refine ⟨_, _, _, [.ref b], rfl, (fun _ _ e => e), hL, .cons (.tup (del_of hb nb) (.cons (.int _) (.cons (.int _) .nil))) .nil, fun x hx => ?_, fun j c hj => absurd hj (Nat.not_lt_zero _)⟩
    rw [List.mem_singleton.mp hx]
    exact on
  · rintro i c σ H3 hc ⟨o4, o5, o6, vs, rfl, s3, hL3, dvs, ons, dirs⟩
    have hq : q[i]? = some c := by
      have : (S q).cps[i]? = some c := hc
      simpa using this
    refine ⟨_, rfl, c, _, rfl, rfl, _, rfl, ?_⟩
    rw [sgn_in]
    cases hd : dirc c with
    | false => exact qn (walk_bad hq hd) _ (dmor s3)
    | true =>
      have ln := dvs.length
      rw [List.length_map, List.length_cons, path_len, List.length_take] at ln
      obtain ⟨m, em⟩ := path_last p (q.take i)
      rw [em, List.map_append] at dvs
      obtain ⟨us, v, rfl, dv⟩ := dvs_last (ds := m.map ptD) (d := ptD (endp p (q.take i))) dvs
      obtain ⟨a, rfl, ha⟩ := dv_pt dv
      rw [← List.map_append (f := ptD) (l₁ := m) (l₂ := [endp p (q.take i)])] at dvs
      rw [← em] at dvs
      refine ⟨_, rfl, _, rfl, L, _, _, _, rfl, rfl, SqL.of hL3, at_last, _, rfl, a, _, _, c, rfl, of_del _ _ ha, hd, fun b2 H4 s4 h4 => ?_⟩
      have hL4 := s4 _ _ hL3
      have nb2 : b2 ≠ L := fun e => by
        rw [e, hL4] at h4
        cases h4
      have on2 : onP (nxt (endp p (q.take i)) c) = ((decide (0 ≤ (endp p (q.take i)).1 + sxc c) && decide ((endp p (q.take i)).1 + sxc c ≤ 30)) && (decide (0 ≤ (endp p (q.take i)).2 + syc c) && decide ((endp p (q.take i)).2 + syc c ≤ 30))) := rfl
      have bad : onP (nxt (endp p (q.take i)) c) = false → Q .non H4 := fun h => qn (walk_off hq h) _ (dmor fun b o e => same_del s4 b o (s3 b o e))
      have lt31 : ∀ z : Int, decide (z < 31) = decide (z ≤ 30) := fun z => by
        by_cases e : z ≤ 30
        · rw [decide_eq_true e, decide_eq_true (by omega)]
        · rw [decide_eq_false e, decide_eq_false (by omega)]
      refine ⟨_, rfl, b2, _, _, _, rfl, rfl, sqt h4, rfl, _, _, rfl, rfl, _, rfl, ite2 (fun c1 => ?_) (fun c1 => ?_)⟩
      · refine ⟨_, _, rfl, rfl, _, rfl, ?_⟩
        rw [lt31]
        cases c2 : decide ((endp p (q.take i)).1 + sxc c ≤ 30) with
        | false => exact bad (by rw [on2, c2, Bool.and_false, Bool.false_and])
        | true =>
          refine ⟨_, rfl, b2, _, _, _, rfl, rfl, sqt h4, rfl, _, _, rfl, rfl, _, rfl, ite2 (fun c3 => ?_) (fun c3 => ?_)⟩
          · refine ⟨_, _, rfl, rfl, _, rfl, ?_⟩
            rw [lt31]
            cases c4 : decide ((endp p (q.take i)).2 + syc c ≤ 30) with
            | false => exact bad (by rw [on2, c4, Bool.and_false, Bool.and_false])
            | true =>
              have on3 : onP (nxt (endp p (q.take i)) c) = true := by
                rw [on2, c2, c4]
                simp only [Bool.and_true]
                rw [c1, c3]
                rfl
              refine ⟨_, rfl, .inl ⟨rfl, _, SqL.of hL4⟩, _, rfl, L, _, _, rfl, rfl, hL4, Nat.lt_of_le_of_lt (show (us ++ [V.ref a]).length ≤ 1001 by omega) (by decide), ?_⟩
              refine ⟨some (.str ⟨#[c]⟩), some (.ref b2), o6, (us ++ [.ref a]) ++ [.ref b2], rfl, (fun b o e => del_upd b o (same_del s4 b o (s3 b o e))), upd_same, ?_, ?_, ?_⟩
              · rw [take_snoc hq, path_snoc]
                show DVs _ _ (((p :: path p (q.take i)) ++ [nxt (endp p (q.take i)) c]).map ptD)
                rw [List.map_append]
                refine dvs_snoc ((dvs.more (same_del s4)).more del_upd) (.tup (del_of ?_ nb2) (.cons (.int _) (.cons (.int _) .nil)))
                rw [upd_ne nb2]
                exact h4
              · intro x hx
                rw [take_snoc hq, path_snoc] at hx
                have hx : x ∈ (p :: path p (q.take i)) ++ [nxt (endp p (q.take i)) c] := hx
                rcases List.mem_append.mp hx with h | h
                · exact ons x h
                · rw [List.mem_singleton.mp h]
                  exact on3
              · intro j c' hj hj2
                by_cases e : j = i
                · subst e
                  rw [hq] at hj2
                  cases hj2
                  exact hd
                · exact dirs j c' (by omega) hj2
          · exact ⟨_, rfl, bad (by rw [on2, (Bool.not_eq_true _).mp c3, Bool.false_and, Bool.and_false])⟩
      · exact ⟨_, rfl, bad (by rw [on2, (Bool.not_eq_true _).mp c1, Bool.false_and, Bool.false_and])⟩
  · rintro σ H3 ⟨o4, o5, o6, vs, rfl, s3, hL3, dvs, ons, dirs⟩
    have sz : (S q).cps.size = q.length := S_len q
    rw [sz, List.take_length] at dvs ons
    rw [sz] at dirs
    have da : q.all dirc = true := dirs_all fun i c hc => dirs i c (List.getElem?_eq_some_iff.mp hc).1 hc
    refine ⟨_, rfl, .inl ⟨L, vs, rfl, SqL.of hL3, fun b' nb' => ?_⟩⟩
    refine qs _ (walk_ok da ons) b' _ _ (fun c o e => stay (of_del c o (s3 c o e)) nb') upd_same ((dvs.more of_del).more fun c o e => stay e nb')
theorem spl_count (s : List Nat) : ∀ (l : List Nat) (k : Nat) (acc : List Nat), (TL.spl s k acc l).length ≤ l.length + 1
  | [], k, acc => by rw [TL.spl_nil]; exact Nat.le_refl _
  | c :: r, 0, acc => by
    unfold TL.spl
    split
    · rw [List.length_cons, List.length_cons]
      exact Nat.succ_le_succ (spl_count s r _ [])
    · rw [List.length_cons]
      exact Nat.le_succ_of_le (spl_count s r 0 _)
  | c :: r, k + 1, acc => by
    rw [List.length_cons]
    exact Nat.le_succ_of_le (spl_count s r k acc)
def numsV (l : List (List Nat)) : List V := l.map numV
theorem num_flat (w : List Nat) : flatV (numV w) = true := by
  unfold numV
  split <;> rfl
theorem num_eq (w : List Nat) : eqV (numV w) .non = !cwB w := by
  unfold numV
  cases cwB w <;> rfl
theorem ok_due {f fS fN : Addr} {fd fdS fdN : FuncData} (F : Fun K "_law_due" "_law_due" (top 19) f fd) (T : Ta mg) (GS : FnOk P w K mg base CX0 1 fS fdS ["_law_point", "_law_sign"] spStep) (AS : At K mg "_law_step" fS fdS ["_law_point", "_law_sign"])
    (GN : FnOk P w K mg base CX0 1 fN fdN ["_law_word"] spNum) (AN : At K mg "_law_number" fN fdN ["_law_word"]) : FnOk P w K mg base CX0 2 f fd ["_law_text"] spDue := by
  refine F.ok scDu (fun vs H Q E h => by obtain ⟨t, rfl, _⟩ := h; rfl) (fun cdv A outer s H vs Q E hr h => ?_)
  obtain ⟨t, rfl, hl, qn, qs⟩ := h
  obtain ⟨tt, ht, go⟩ := tail_due (P := P) (w := w) (K := K) (mg := mg) (base := base) (f := f) (cdv := cdv) (A := A) (outer := outer) (s := s) (H0 := H) (E := E) hr T GS AS
  refine ⟨_, (pss_cons (ps_set (i := 1) scDu.nd rfl (Or.inl rfl) (pe_split (pv 0) pe_str))
    (pss_cons (ps_if (PW.pt (pw_or (pt_cmpR op_ne (pe_callB call_len_seq (by rfl) T.len PySem.boot_len (pa_cons (pv 1) pa_nil)) pe_int (nomark _)) (pw_or (pt_cmpR op_eq (pe_ix ix_list (pv 1) pe_int (fun _ _ => rfl)) pe_str (nomark _)) (pw_or1 (pt_cmpR op_gt (pe_callB call_len_str (by rfl) T.len PySem.boot_len (pa_cons (pe_ix ix_list (pv 1) pe_int (fun _ _ => rfl)) pa_nil)) pe_int (nomark _)))))) (pss_one (ps_ret pe_non)) pss_nil)
    (pss_cons (ps_setLc (i := 2) (own := [("_law_word", 6)]) (g := gName 6) (tt := tYes) rfl scDu.nd rfl rfl (sw_true rfl rfl rfl (by decide +kernel)) (pi_list (pe_split (pe_ix ix_list (pv 1) pe_int (fun _ _ => rfl)) pe_str)) (blkOk_by (N := ["_law_text", "_law_words", "_law_numbers", "_law_found", "_law_sign", "_law_point", "_law_word"]) (sc := defScope (top 19)) (by decide +kernel)) (fun _ _ _ _ _ => pg_name (i := 6) scDu.nd rfl (Or.inl rfl)) (fun _ _ _ _ _ => pts_nil) (fun _ _ _ _ _ => (pe_call GN (hr.mono (by decide)) rfl AN.g AN.k AN.b .nil pass0 (pa_cons (pv 6) pa_nil))))
    (pss_cons (ps_if (PW.pt (pw_or (pt_cmpR op_ne (pe_callB call_len_seq (by rfl) T.len PySem.boot_len (pa_cons (pv 2) pa_nil)) pe_int (nomark _)) (pw_or1 (pt_cmpR op_in_seq pe_non (pv 2) (by rfl))))) (pss_one (ps_ret pe_non)) pss_nil)
    (pss_cons (ps_set (i := 3) scDu.nd rfl (Or.inl rfl) (pe_lst (pa_cons (pe_tup (pa_cons (pe_ix ix_list (pv 2) pe_int (fun _ _ => rfl)) (pa_cons (pe_ix ix_list (pv 2) pe_int (fun _ _ => rfl)) pa_nil))) pa_nil)))
    ht))))), ?_⟩
  have hsp : Txt.split (S t) ((" " : Str)) = (TL.spl [32] 0 [] t).map S := split_S (b := [32]) (List.cons_ne_nil _ _) rfl
  refine ⟨_, rfl, ⟨_, rfl⟩, S t, _, rfl, rfl, rfl, by rw [S_len]; exact size1000 (by omega), fun W nW => ?_⟩
  rw [hsp]
  have sm : Same H (upd H W (.lst (((TL.spl [32] 0 [] t).map S).map V.str))) := fun b o e => stay e nW
  refine ⟨_, rfl, W, _, rfl, .inl (SqL.of upd_same), rfl, _, rfl, ?_⟩
  rw [List.length_map, List.length_map]
  cases e1 : (!decide (V.int (((TL.spl [32] 0 [] t).length : Nat) : Int) = V.int 2)) with
  | true => exact qn (due_not (not_two e1)) _ sm
  | false =>
    obtain ⟨u, q, e2⟩ := two_of e1
    have hd2 := due_two e2
    have lu : u.length ≤ 1000 := spl_le t 0 [] 1000 (by simpa using hl) u (by rw [e2]; simp)
    have lq : q.length ≤ 1000 := spl_le t 0 [] 1000 (by simpa using hl) q (by rw [e2]; simp)
    have hW : (upd H W (.lst (((TL.spl [32] 0 [] t).map S).map V.str))) W = some (.lst [.str (S u), .str (S q)]) := by
      rw [upd_same, e2]
      rfl
    generalize hH1 : upd H W (.lst (((TL.spl [32] 0 [] t).map S).map V.str)) = H1 at sm hW
    refine ⟨_, rfl, W, _, _, _, rfl, rfl, SqL.of hW, rfl, rfl, _, rfl, ?_⟩
    rw [show (("" : Str)) = S [] from rfl, dec_S]
    refine ite2 (fun c1 => ?_) (fun c1 => ?_)
    · have c1 : q = [] := of_decide_eq_true c1
      refine qn ?_ _ sm
      rw [hd2, if_pos (.inl (by rw [c1]; rfl))]
    · have c1 : q ≠ [] := fun z => c1 (decide_eq_true z)
      refine ⟨_, rfl, W, _, _, _, rfl, rfl, SqL.of hW, rfl, S q, rfl, by rw [S_len]; exact size1000 (by omega), _, _, rfl, rfl, _, rfl, ?_⟩
      refine ite2 (fun c2 => ?_) (fun c2 => ?_)
      · have c2 : 400 < q.length := by
          have := of_decide_eq_true c2
          rw [S_len] at this
          omega
        refine qn ?_ _ sm
        rw [hd2, if_pos (.inr c2)]
      · have c2 : ¬ 400 < q.length := fun z => c2 (decide_eq_true (by rw [S_len]; omega))
        have hd3 : dueOf t = (match nums u with
            | none => none
            | some p => walkIf p q) := by
          rw [hd2, if_neg (by
            rintro (h | h)
            · exact c1 (List.length_eq_zero_iff.mp h)
            · exact c2 h)]
        have hsu : Txt.split (S u) (("," : Str)) = (TL.spl [44] 0 [] u).map S := split_S (b := [44]) (List.cons_ne_nil _ _) rfl
        refine ⟨_, rfl, W, _, _, _, rfl, rfl, SqL.of hW, rfl, ⟨_, rfl⟩, S u, _, rfl, rfl, rfl, by rw [S_len]; exact size1000 (by omega), fun L1 nL1 => ?_⟩
        rw [hsu]
        have lw := spl_le (s := [44]) u 0 [] 1000 (by simpa using lu)
        have lc : (TL.spl [44] 0 [] u).length ≤ 1001 := by
          have := spl_count [44] u 0 []
          omega
        generalize hws : TL.spl [44] 0 [] u = ws at lw lc
        have hL1 : upd H1 L1 (.lst ((ws.map S).map V.str)) L1 = some (.lst ((ws.map S).map V.str)) := upd_same
        have s1 : Same H1 (upd H1 L1 (.lst ((ws.map S).map V.str))) := fun b o e => stay e nL1
        generalize hH2 : upd H1 L1 (.lst ((ws.map S).map V.str)) = H2 at hL1 s1
        refine ⟨L1, rfl, ⟨_, SqL.of hL1⟩, fun Dd nD => lc_list (K := K) (a := L1) (xs := (ws.map S).map V.str) (fun m H' => H' Dd = some (.lst (numsV (ws.take m))) ∧ Same H2 H') ⟨upd_same, fun b o e => stay e nD⟩ ?_ ?_ ?_⟩
        · rintro i H4 hi ⟨h4, s4⟩
          exact SqL.of (s4 _ _ hL1)
        · rintro i x H4 hx ⟨h4, s4⟩
          rw [List.map_map, List.getElem?_map] at hx
          obtain ⟨wd, hwd, rfl⟩ := Option.map_eq_some_iff.mp hx
          refine ⟨rfl, _, rfl, wd, rfl, lw wd (List.mem_of_getElem? hwd), fun H5 s5 => ⟨_, s5 _ _ h4, ?_, ?_, ?_⟩⟩
          · unfold numsV
            rw [List.length_map, List.length_take]
            exact Nat.lt_of_le_of_lt (show min i ws.length ≤ 1001 by omega) (by decide)
          · rw [upd_same, List.take_add_one, hwd]
            unfold numsV
            rw [List.map_append]
            rfl
          · intro b o e
            have ne : b ≠ Dd := fun y => by
              rw [y, nD] at e
              cases e
            rw [upd_ne ne]
            exact s5 b o (s4 b o e)
        · rintro H4 ⟨h4, s4⟩
          rw [List.length_map, List.length_map, List.take_length] at h4
          have s04 : Same H H4 := fun b o e => s4 b o (s1 b o (sm b o e))
          refine ⟨_, rfl, Dd, _, rfl, .inl (SqL.of h4), rfl, _, rfl, ?_⟩
          rw [show (numsV ws).length = ws.length from List.length_map ..]
          cases e3 : (!decide (V.int ((ws.length : Nat) : Int) = V.int 2)) with
          | true =>
            refine qn ?_ _ s04
            rw [hd3, nums_not (by rw [hws]; exact not_two e3)]
          | false =>
            obtain ⟨a, b, rfl⟩ := two_of e3
            have hn := nums_two hws
            have h4 : H4 Dd = some (.lst [numV a, numV b]) := h4
            refine ⟨_, rfl, Dd, _, rfl, .inl (SqL.of h4), rfl, ?_, _, rfl, ?_⟩
            · show (flatV (numV a) && (flatV (numV b) && true)) = true
              rw [num_flat, num_flat]
              rfl
            · rw [if_neg (by decide)]
              have ei : inV .non [numV a, numV b] = (!cwB a || !cwB b) := by
                show (eqV (numV a) .non || (eqV (numV b) .non || false)) = _
                rw [num_eq, num_eq, Bool.or_false]
              rw [ei]
              cases ca : cwB a with
              | false =>
                refine qn ?_ _ s04
                rw [hd3, hn, ca]
                rfl
              | true =>
                cases cb : cwB b with
                | false =>
                  refine qn ?_ _ s04
                  rw [hd3, hn, ca, cb]
                  rfl
                | true =>
                  have va : numV a = .int ((val a : Nat) : Int) := if_pos ca
                  have vb : numV b = .int ((val b : Nat) : Int) := if_pos cb
                  rw [va, vb] at h4
                  have hpt : nums u = some (((val a : Nat) : Int), ((val b : Nat) : Int)) := by
                    rw [hn, ca, cb]
                    rfl
                  have hd4 : dueOf t = walkIf (((val a : Nat) : Int), ((val b : Nat) : Int)) q := by
                    rw [hd3, hpt]
                  refine ⟨_, rfl, Dd, _, _, _, rfl, rfl, SqL.of h4, rfl, _, rfl, Dd, _, _, _, rfl, rfl, SqL.of h4, rfl, (by show 2 ≤ sizeLine; decide), fun p np => ⟨(by show 1 ≤ sizeLine; decide), fun L nL => ?_⟩⟩
                  have nWL : W ≠ L := fun e => by
                    have := s4 _ _ (s1 _ _ hW)
                    rw [e] at this
                    rw [stay this np] at nL
                    cases nL
                  have npL : p ≠ L := fun e => by
                    rw [e, upd_same] at nL
                    cases nL
                  have sH : Same H (del (upd (upd H4 p (.tup [.int ((val a : Nat) : Int), .int ((val b : Nat) : Int)])) L (.lst [.ref p])) L) := fun c o e => by
                    have h1 := stay (a := p) (o := .tup [.int ((val a : Nat) : Int), .int ((val b : Nat) : Int)]) (s04 c o e) np
                    exact del_of (stay h1 nL) (fun z => by rw [z, nL] at h1; cases h1)
                  obtain ⟨_, ba, _⟩ := cw_of ca
                  obtain ⟨_, bb, _⟩ := cw_of cb
                  refine go Q _ _ W L u q (((val a : Nat) : Int), ((val b : Nat) : Int)) p _ lq ?_ (stay (stay (s4 _ _ (s1 _ _ hW)) np) nL) upd_same npL nWL (stay upd_same nL) (fun hz H' s' => qn (by rw [hd4]; exact hz) H' fun c o e => s' c o (sH c o e)) (fun l hz c xs H' s' => qs l (by rw [hd4]; exact hz) c xs H' fun c o e => s' c o (sH c o e))
                  show ((decide (0 ≤ ((val a : Nat) : Int)) && decide (((val a : Nat) : Int) ≤ 30)) && (decide (0 ≤ ((val b : Nat) : Int)) && decide (((val b : Nat) : Int) ≤ 30))) = true
                  rw [decide_eq_true (by omega : 0 ≤ ((val a : Nat) : Int)), decide_eq_true (by omega : ((val a : Nat) : Int) ≤ 30), decide_eq_true (by omega : 0 ≤ ((val b : Nat) : Int)), decide_eq_true (by omega : ((val b : Nat) : Int) ≤ 30)]
                  rfl
end
end T1
set_option Elab.async false
set_option linter.all false
set_option maxRecDepth 100000
set_option maxHeartbeats 16000000
namespace T1
open PySem PySem.Spec PyProof.Rows L2 Nv SX
/-- what the law's reader gives: the walk or None -/
def spLR (K : PySem.W.Frag) : Sp := fun vs H Q _ => ∃ v o, vs = [v] ∧ Ask K H v o ∧ (∀ l, askW o = some l → ∀ b xs H', Same H H' → H' b = some (.tup xs) → DVs H' xs (l.map ptD) → Q (.ref b) H') ∧ (askW o = none → ∀ H', Same H H' → Q .non H')
def spSp : Sp := fun vs H Q _ => ∃ (p : Addr) (m : Int) (z : Str), vs = [.ref p, .str z] ∧ BoxAt H p m ∧ m ≤ 50000 ∧ z.length ≤ 900 ∧ ∀ (z' : Str) H', z'.length ≤ z.length + 1 → BoxAt H' p (m + 3) → But p H H' → Q (.str z') H'
theorem BoxAt.le {H : Hp} {p : Addr} {m m' : Int} (h : BoxAt H p m) (le : m ≤ m') : BoxAt H p m' := by
  obtain ⟨b0, b1, b2, h1, h2, h3, h4, h5⟩ := h
  exact ⟨b0, b1, b2, h1, h2, h3, h4, by omega⟩
theorem BoxAt.more {H H' : Hp} {p : Addr} {m : Int} (k : Same H H') (h : BoxAt H p m) : BoxAt H' p m := by
  obtain ⟨b0, b1, b2, h1, h2⟩ := h
  exact ⟨b0, b1, b2, k _ _ h1, h2⟩
theorem BoxAt.some {H : Hp} {p : Addr} {m : Int} (h : BoxAt H p m) : ∃ o, H p = some o := by
  obtain ⟨b0, b1, b2, h1, h2⟩ := h
  exact ⟨_, h1⟩
theorem BoxAt.ne {H : Hp} {p a : Addr} {m : Int} (h : BoxAt H p m) (n : H a = none) : a ≠ p := fun e => by
  obtain ⟨o, q⟩ := h.some
  rw [← e, n] at q
  cases q
theorem but_tr {p : Addr} {a b c : Hp} (h : But p a b) (k : But p b c) : But p a c := fun x o n e => k x o n (h x o n e)
theorem but_of {p : Addr} {a b : Hp} (h : Same a b) : But p a b := fun x o _ e => h x o e
theorem cut_to (z : Str) {i : Int} (h : 0 ≤ i) : (cutS z none (some i)).length ≤ i.toNat := by
  show (((z.cps.toList.drop (HT.sIx z.length 0 none)).take (HT.sIx z.length z.length (some i) - HT.sIx z.length 0 none)).toArray).size ≤ i.toNat
  have e : HT.sIx z.length z.length (some i) = min i.toNat z.length := if_neg (by omega)
  rw [List.size_toArray, List.length_take, e]
  omega
theorem cut_from (z : Str) {i : Int} (h : 0 ≤ i) : (cutS z (some i) none).length ≤ z.length - i.toNat := by
  show (((z.cps.toList.drop (HT.sIx z.length 0 (some i))).take (HT.sIx z.length z.length none - HT.sIx z.length 0 (some i))).toArray).size ≤ _
  have e : HT.sIx z.length 0 (some i) = min i.toNat z.length := if_neg (by omega)
  rw [List.size_toArray, List.length_take, List.length_drop, e, Array.length_toList]
  show min (z.length - min i.toNat z.length) (z.cps.size - min i.toNat z.length) ≤ _
  have : z.cps.size = z.length := rfl
  omega
theorem sign16 {r : Int} (h0 : 0 ≤ r) (h1 : r < 16) : ∃ c, atI (", 0123ruldRx-+\n_" : Str).cps.toList r = some c := by
  obtain ⟨j, rfl⟩ : ∃ j : Nat, r = j := ⟨r.toNat, by omega⟩
  have hl : (", 0123ruldRx-+\n_" : Str).cps.toList.length = 16 := by decide +kernel
  have hj : j < (", 0123ruldRx-+\n_" : Str).cps.toList.length := by omega
  exact ⟨_, atI_nat (List.getElem?_eq_getElem hj)⟩
section
variable {P : Program} {w : World} {K : PySem.W.Frag} {mg : Str → Option Value} {base : Heap} {C fI : Addr} {fdI : FuncData}
theorem scLR : FnScope ["_law_value", "e"] ["_law_value"] (defScope (top 20)) := ⟨rfl, rfl, rfl, by decide +kernel, rfl, by decide +kernel, by decide +kernel⟩
theorem ok_lread {f fR : Addr} {fd fdR : FuncData} (F : Fun K "_law_read" "_law_read" (top 20) f fd) (X : Tx K mg C fI) (ex : PySem.W.exmOne K (.ref C) (.ref C) = some true)
    (GR : FnOk P w K mg base (L2N.CX P w) 4 fR fdR ["text"] (spRead K C)) (AR : At K mg "read_walk" fR fdR ["text"]) : FnOk P w K mg base CX0 5 f fd ["_law_value"] (spLR K) := by
  refine F.ok scLR (fun vs H Q E h => by obtain ⟨v, o, rfl, _⟩ := h; rfl) (fun cdv A outer s H vs Q E hr h => ?_)
  obtain ⟨v, o, rfl, ask, qs, qn⟩ := h
  refine ⟨_, pss_one (NvN.ps_try_hds (Wout := fun _ _ _ _ => False) rfl rfl scLR.nd takesN0
    (fun W pn xe tk _ => pss_one (ps_ret (pe_callS GR (hr.mono (by decide)) rfl AR.g AR.k AR.b (L2N.passAt tk) (pa_cons (pv 0) pa_nil))))
    (.named (i := 1) (c := .ref C) ⟨rfl, by decide, .inl X.gl⟩ rfl rfl (fun a oe cls d pn hz hf nb => pss_one (ps_ret (pe_ifExp (pt_cmpR op_eq (pe_xf (C := C) X.xc.fl X.xc.mx.nov hz.zc hf (pv 1)) pe_int (nomark _)) pe_non pe_bl))) .nil)), ?_⟩
  generalize hW : wHds _ _ _ _ = W
  refine ⟨_, rfl, v, o, rfl, ask, qs, fun hz dx H1 s1 hd => ?_⟩
  obtain ⟨nn, hd⟩ := hd
  rw [← hW]
  refine ⟨true, ex, fun _ a na => ?_, fun z => nomatch z⟩
  refine ⟨_, rfl, rfl, rfl, dx, _, .int 1, rfl, hd, rfl, rfl, _, rfl, ite2 (fun _ => qn hz H1 s1) (fun n => (n (decide_eq_true rfl)).elim)⟩
theorem scSp : FnScope ["_law_box_here", "_law_text", "_law_at", "_law_sign", "_law_rest"] ["_law_box_here", "_law_text"] (defScope (top 21)) := ⟨rfl, rfl, rfl, by decide +kernel, rfl, by decide +kernel, by decide +kernel⟩
theorem ok_spoilt {f fT : Addr} {fd fdT : FuncData} (F : Fun K "_law_spoilt" "_law_spoilt" (top 21) f fd) (T : Ta mg) (GT : FnOk P w K mg base CX0 1 fT fdT ["_law_box_here", "_law_many"] spTake) (AT : At K mg "_law_take" fT fdT ["_law_box_here", "_law_many"]) :
    FnOk P w K mg base CX0 2 f fd ["_law_box_here", "_law_text"] spSp := by
  refine F.ok scSp (fun vs H Q E h => by obtain ⟨p, m, z, rfl, _⟩ := h; rfl) (fun cdv A outer s H vs Q E hr h => ?_)
  obtain ⟨p, m, z, rfl, hb, hm, hz, q⟩ := h
  refine ⟨_, (pss_cons (ps_set (i := 2) scSp.nd rfl (Or.inl rfl) (pe_call GT hr rfl AT.g AT.k AT.b .nil pass0 (pa_cons (pv 0) (pa_cons (pe_op op_add (pe_callB call_len_str (by rfl) T.len PySem.boot_len (pa_cons (pv 1) pa_nil)) pe_int) pa_nil))))
    (pss_cons (ps_set (i := 3) scSp.nd rfl (Or.inl rfl) (pe_ix ix_str pe_str (pe_call GT hr rfl AT.g AT.k AT.b .nil pass0 (pa_cons (pv 0) (pa_cons pe_int pa_nil))) (fun _ _ => rfl)))
    (pss_cons (ps_set (i := 4) scSp.nd rfl (Or.inl rfl) (pe_slice sl_str (pv 1) (po_some (pe_op op_add (pv 2) pe_int)) po_none))
    (pss_one (ps_ret (pe_ix ix_list (pe_lst (pa_cons (pe_op op_add_str (pe_op op_add_str (pe_slice sl_str (pv 1) po_none (po_some (pv 2))) (pv 3)) (pe_slice sl_str (pv 1) (po_some (pv 2)) po_none)) (pa_cons (pe_op op_add_str (pe_slice sl_str (pv 1) po_none (po_some (pv 2))) (pv 4)) (pa_cons (pe_op op_add_str (pe_op op_add_str (pe_slice sl_str (pv 1) po_none (po_some (pv 2))) (pv 3)) (pv 4)) pa_nil)))) (pe_call GT hr rfl AT.g AT.k AT.b .nil pass0 (pa_cons (pv 0) (pa_cons pe_int pa_nil))) (fun _ _ => rfl))))))), ?_⟩
  have szz := size1000 (n := z.length) (by omega)
  refine ⟨_, rfl, _, rfl, z, rfl, szz, _, _, rfl, rfl, p, m, _, rfl, hb, by omega, by omega, by omega, fun at_ H1 a0 a1 hb1 k1 => ?_⟩
  refine ⟨_, rfl, p, m + 1, 16, rfl, hb1, by omega, by decide, by decide, fun r2 H2 r20 r21 hb2 k2 => ?_⟩
  obtain ⟨c, hc⟩ := sign16 r20 r21
  refine ⟨_, r2, c, rfl, rfl, (by decide +kernel), hc, ?_⟩
  have l1 := cut_to z (i := at_) a0
  have l2 := cut_from z (i := at_) a0
  have l3 := cut_from z (i := at_ + 1) (by omega)
  have lc : (⟨#[c]⟩ : Str).length = 1 := rfl
  have small : ∀ {n : Nat}, n ≤ 1000 → n ≤ sizeLine := fun h => size1000 (by omega)
  refine ⟨_, rfl, _, rfl, _, _, rfl, rfl, _, rfl, z, rfl, szz, ?_⟩
  have b1 : (cutS z none (some at_) ++ (⟨#[c]⟩ : Str)).length ≤ at_.toNat + 1 := by rw [Str.length_append, lc]; omega
  refine ⟨_, rfl, _, rfl, _, rfl, z, rfl, szz, _, rfl, _, _, rfl, rfl, small (by rw [lc]; omega), _, rfl, _, rfl, _, rfl, z, rfl, szz, _, _, rfl, rfl, small (by omega), ?_⟩
  refine ⟨_, rfl, _, rfl, _, rfl, z, rfl, szz, _, rfl, _, _, rfl, rfl, small (by omega), ?_⟩
  refine ⟨_, rfl, _, rfl, _, rfl, z, rfl, szz, _, rfl, _, _, rfl, rfl, small (by rw [lc]; omega), _, rfl, _, _, rfl, rfl, small (by omega), (by show 3 ≤ sizeLine; decide), fun l nl => ?_⟩
  have ne := hb2.ne nl
  refine ⟨_, rfl, p, m + 1 + 1, 3, rfl, hb2.more fun b o e => stay e nl, by omega, by decide, by decide, fun r H3 r0 r1 hb3 k3 => ?_⟩
  have kk : But p H H3 := but_tr (but_tr (but_tr k1 k2) (but_of fun b o e => stay e nl)) k3
  have zz : r = 0 ∨ r = 1 ∨ r = 2 := by omega
  rcases zz with rfl | rfl | rfl
  · refine ⟨l, _, _, _, rfl, rfl, SqL.of (k3 _ _ ne upd_same), rfl, q _ H3 ?_ (hb3.le (by omega)) kk⟩
    rw [Str.length_append]
    omega
  · refine ⟨l, _, _, _, rfl, rfl, SqL.of (k3 _ _ ne upd_same), rfl, q _ H3 ?_ (hb3.le (by omega)) kk⟩
    rw [Str.length_append]
    omega
  · refine ⟨l, _, _, _, rfl, rfl, SqL.of (k3 _ _ ne upd_same), rfl, q _ H3 ?_ (hb3.le (by omega)) kk⟩
    rw [Str.length_append]
    omega
end
end T1
set_option Elab.async false
set_option linter.all false
set_option maxRecDepth 100000
set_option maxHeartbeats 16000000
namespace T1
open PySem PySem.Spec PyProof.Rows L2 Nv SX
section
variable {X : Cx}
theorem op_mulS : OpR X (binaryOp .Mult) (fun x y H Q => ∃ (z : Str) (n : Int), x = .str z ∧ y = .int n ∧ MulOk z n ∧ Q (.str (Txt.mul z n)) H) := by
  intro pins s σ H x y v u Q I rx ry h
  obtain ⟨z, n, rfl, rfl, ok, q⟩ := h
  obtain ⟨t, rfl⟩ := rx
  obtain ⟨t', rfl⟩ := ry
  exact SB.mul ok fun t2 k => ⟨.str _, H, I.tok _, ⟨_, rfl⟩, q⟩
end
theorem mul_0 (z : Str) : MulOk z 0 := ⟨by decide, fun h => absurd (by decide) h, fun h => absurd (by decide) h⟩
theorem mul_1 (z : Str) : MulOk z 1 := ⟨by decide, fun _ h => (by cases h), fun _ h => (by cases h)⟩
theorem mul_201 {z : Str} (h : z.length ≤ 4) : MulOk z 201 := by
  refine ⟨by decide, fun _ _ => ?_, fun _ _ => ?_⟩
  · have : ((2 : Int) ^ 63 - 1) / 201 ≥ 4 := by decide
    omega
  · have h1 : z.length * (201 : Int).toNat ≤ 4 * 201 := Nat.mul_le_mul_right _ h
    have h2 : z.length * (201 : Int).toNat ≤ 804 := h1
    exact decide_eq_false (by
      have : 804 ≤ sizeLine := by decide
      omega)
theorem len_mul201 {z : Str} (h : z.length ≤ 4) : (Txt.mul z 201).length ≤ 1000 := by
  have := PyProof.Rows.len_mul z 201
  rw [if_neg (by decide)] at this
  omega
theorem len_mul01 (z : Str) (k : Bool) (h : z.length ≤ 1) : (Txt.mul z (if k = true then 1 else 0)).length ≤ 1 := by
  cases k with
  | true =>
    have := PyProof.Rows.len_mul z 1
    rw [if_neg (by decide)] at this
    show (Txt.mul z 1).length ≤ 1
    omega
  | false => exact Nat.zero_le _
theorem shaped_pts : ∀ l : List Pt, PyData.canLayAll0 (l.map ptD) = true ∧ PyData.depthAll (l.map ptD) ≤ 1 ∧ PyData.hasDictAll (l.map ptD) = false
  | [] => ⟨rfl, Nat.zero_le _, rfl⟩
  | p :: r => by
    obtain ⟨h1, h2, h3⟩ := shaped_pts r
    refine ⟨?_, ?_, ?_⟩
    · show ((ptD p).canLay0 && PyData.canLayAll0 (r.map ptD)) = true
      rw [h1]
      rfl
    · show max (ptD p).depth (PyData.depthAll (r.map ptD)) ≤ 1
      have : (ptD p).depth = 1 := rfl
      omega
    · show ((ptD p).hasDict || PyData.hasDictAll (r.map ptD)) = false
      rw [h3]
      rfl
theorem shaped_res (o : Option (List Pt)) : SeqAt.shaped (resD o) = true ∧ (resD o).hasDict = false := by
  cases o with
  | none => exact ⟨rfl, rfl⟩
  | some l =>
    obtain ⟨h1, h2, h3⟩ := shaped_pts l
    refine ⟨?_, ?_⟩
    · show (PyData.canLayAll0 (l.map ptD) && decide (PyData.depthAll (l.map ptD) + 1 ≤ 64)) = true
      rw [h1, decide_eq_true (by omega)]
      rfl
    · show PyData.hasDictAll (l.map ptD) = false
      exact h3
theorem eqv_res (o : Option (List Pt)) : PyData.eqv (resD o) (resD o) = true := SeqAt.eqv_refl _ (SeqAt.canLay_of_shaped (shaped_res o).1)
/-- the script stands at a, apart from the box at p -/
inductive Far (K : PySem.W.Frag) (H : Hp) (a : Addr) (xs : List V) (p : Addr) : Prop
  | wr (h : ∀ H, SqL K H a xs)
  | tr {o : HO} (h : H a = some o) (k : o = .lst xs ∨ ∃ ob, o = .frz ob (.lst xs)) (ne : a ≠ p)
theorem Far.seq {K : PySem.W.Frag} {H : Hp} {a p : Addr} {xs : List V} (f : Far K H a xs p) : SqL K H a xs := by
  rcases f with h | ⟨h, k, _⟩
  · exact h H
  · rcases k with rfl | ⟨ob, rfl⟩
    · exact .inl (.inl h)
    · exact .inl (.inr ⟨ob, h⟩)
theorem Far.of {K : PySem.W.Frag} {H H' : Hp} {a p : Addr} {xs : List V} (h : SqL K H a xs) (hp : H p = none) (k : Same H H') : Far K H' a xs p := by
  rcases h with (h | ⟨o, h⟩) | h
  · exact .tr (k _ _ h) (.inl rfl) (fun e => by rw [e, hp] at h; cases h)
  · exact .tr (k _ _ h) (.inr ⟨o, rfl⟩) (fun e => by rw [e, hp] at h; cases h)
  · exact .wr fun _ => .inr h
theorem Far.but {K : PySem.W.Frag} {H H' : Hp} {a p : Addr} {xs : List V} (f : Far K H a xs p) (k : But p H H') : Far K H' a xs p := by
  rcases f with h | ⟨h, q, ne⟩
  · exact .wr h
  · exact .tr (k _ _ ne h) q ne
def spLaw (K : PySem.W.Frag) : Sp := fun vs H Q _ => ∃ (a : Addr) (ns : List Int), vs = [.ref a] ∧ SqL K H a (ns.map V.int) ∧ ns.length ≤ 63 ∧ ∀ H', Q (.bl true) H'
theorem rng_ok (l : Nat) : -(2 ^ 62) ≤ (if (if (6 : Int) < (l : Int) then (6 : Int) else (l : Int)) > 1 then (if (6 : Int) < (l : Int) then (6 : Int) else (l : Int)) else 1 : Int) ∧ (if (if (6 : Int) < (l : Int) then (6 : Int) else (l : Int)) > 1 then (if (6 : Int) < (l : Int) then (6 : Int) else (l : Int)) else 1 : Int) < 2 ^ 62 ∧
    (if (if (6 : Int) < (l : Int) then (6 : Int) else (l : Int)) > 1 then (if (6 : Int) < (l : Int) then (6 : Int) else (l : Int)) else 1 : Int).toNat ≤ 8 := by
  refine ⟨?_, ?_, ?_⟩ <;> (split <;> split <;> omega)
theorem str_len (n : Int) (h0 : 0 ≤ n) (h1 : n ≤ 1000) : (Str.ofString (toString n)).length ≤ 41 ∧ n.natAbs.log2 < 1920 := by
  refine ⟨intText_le (Nat.lt_of_le_of_lt (show n.natAbs ≤ 1000 by omega) (by decide)), ?_⟩
  exact Nat.lt_of_le_of_lt (Nat.log2_le_self _) (by omega)
theorem join_sg (cs : List Nat) : (Txt.join ("" : Str) (cs.map fun c => (⟨#[c]⟩ : Str))).length ≤ cs.length := by
  show (Builtin.Str.glued _ _).length ≤ _
  rw [StrLaws.glued_eq_join]
  have := StrLaws.join_length_le ("" : Str) (cs.map fun c => (⟨#[c]⟩ : Str))
  have e : ((cs.map fun c => (⟨#[c]⟩ : Str)).map (·.length)).sum = cs.length := by
    induction cs with
    | nil => rfl
    | cons c r ih =>
      simp only [List.map_cons, List.sum_cons, List.length_cons]
      have h2 := StrLaws.join_length_le ("" : Str) (r.map fun c => (⟨#[c]⟩ : Str))
      rw [ih h2]
      have : (⟨#[c]⟩ : Str).length = 1 := rfl
      omega
  rw [e] at this
  have e0 : ("" : Str).length = 0 := rfl
  rw [e0] at this
  omega
theorem ruld4 {r : Int} (h0 : 0 ≤ r) (h1 : r < 4) : ∃ c, atI ("ruld" : Str).cps.toList r = some c := by
  obtain ⟨j, rfl⟩ : ∃ j : Nat, r = j := ⟨r.toNat, by omega⟩
  have hl : ("ruld" : Str).cps.toList.length = 4 := by decide +kernel
  have hj : j < ("ruld" : Str).cps.toList.length := by omega
  exact ⟨_, atI_nat (List.getElem?_eq_getElem hj)⟩
def forBody : Stmt → List Stmt
  | .For _ _ b _ _ => b
  | _ => []
def lawTurn : List Stmt := forBody ((forBody ((defBody (top 22)).getD 0 (.Pass ⟨0, 0, 0, 0⟩))).getD 1 (.Pass ⟨0, 0, 0, 0⟩))
section
variable {P : Program} {w : World} {K : PySem.W.Frag} {mg : Str → Option Value} {base : Heap} {f : Addr} {cdv : Value} {A : Around} {outer : List Env} {s : Shared} {H0 : Hp} {E : XK}
theorem scLaw : FnScope ["_law_script", "_law_k", "_law_box_here", "_law_turn", "_law_x", "_law_y", "_law_signs", "_law_text", "_law_lap", "_law_some", "_law_value", "_law_step_here"] ["_law_script"] (defScope (top 22)) := ⟨rfl, rfl, rfl, by decide +kernel, rfl, by decide +kernel, by decide +kernel⟩
abbrev XL (P : Program) (w : World) (K : PySem.W.Frag) (mg : Str → Option Value) (base : Heap) (f : Addr) (cdv : Value) (A : Around) (outer : List Env) (s : Shared) (H0 : Hp) (E : XK) : Cx := (cxOf CX0 P w K mg base ["_law_script", "_law_k", "_law_box_here", "_law_turn", "_law_x", "_law_y", "_law_signs", "_law_text", "_law_lap", "_law_some", "_law_value", "_law_step_here"] "law" (defScope (top 22)) f cdv A outer s H0 E).nox
/-- behind a turn -/
def Nxt (K : PySem.W.Frag) (a : Addr) (ns : List Int) (p : Addr) (m : Int) (q1 q3 q9 q10 q11 : Option V) (D : Ends) : Prop := ∀ H' (q4 q5 q6 q7 q8 : Option V), Far K H' a (ns.map V.int) p → BoxAt H' p m → D.nx [some (.ref a), q1, some (.ref p), q3, q4, q5, q6, q7, q8, q9, q10, q11] H'
theorem tail4 (hr : Room 5 (A.deeper (envOfC "law" (defScope (top 22)) s.heap.objs.size f cdv))) (T : Ta mg) (B : Tb mg) {fT : Addr} {fdT : FuncData} (GT : FnOk P w K mg base CX0 1 fT fdT ["_law_box_here", "_law_many"] spTake) (AT : At K mg "_law_take" fT fdT ["_law_box_here", "_law_many"]) {fSP : Addr} {fdSP : FuncData} (GSP : FnOk P w K mg base CX0 2 fSP fdSP ["_law_box_here", "_law_text"] spSp) (ASP : At K mg "_law_spoilt" fSP fdSP ["_law_box_here", "_law_text"]) {fR : Addr} {fdR : FuncData} (GR : FnOk P w K mg base CX0 5 fR fdR ["_law_value"] (spLR K)) (AR : At K mg "_law_read" fR fdR ["_law_value"]) {fDU : Addr} {fdDU : FuncData} (GDU : FnOk P w K mg base CX0 2 fDU fdDU ["_law_text"] spDue) (ADU : At K mg "_law_due" fDU fdDU ["_law_text"]) : ∃ t, PSs (XL P w K mg base f cdv A outer s H0 E) (lawTurn.drop 4) t ∧ ∀ (D : Ends) (a : Addr) (ns : List Int) (p : Addr) (m : Int) (x y : Int) (z : Str) (q1 q3 q7 q8 q9 q10 q11 : Option V) (H : Hp),
    0 ≤ x → x ≤ 32 → 0 ≤ y → y ≤ 32 → z.length ≤ 450 → m ≤ 40000 → Far K H a (ns.map V.int) p → BoxAt H p m → Nxt K a ns p (m + 10) q1 q3 q9 q10 q11 D →
    t D [some (.ref a), q1, some (.ref p), q3, some (.int x), some (.int y), some (.str z), q7, q8, q9, q10, q11] H := by
  have hu64 : (A.deeper (envOfC "law" (defScope (top 22)) s.heap.objs.size f cdv)).units + 64 < cLine := by
    have := hr.un
    omega
  refine ⟨_, (pss_cons (ps_set (i := 7) scLaw.nd rfl (Or.inl rfl) (pe_op op_add_str (pe_op op_add_str (pe_op op_add_str (pe_op op_add_str (pe_callTy call_str_int (by rfl) T.str (by decide +kernel) (pa_cons (pv 4) pa_nil)) pe_str) (pe_callTy call_str_int (by rfl) T.str (by decide +kernel) (pa_cons (pv 5) pa_nil))) pe_str) (pv 6)))
    (pss_cons (ps_for PassesOwn.never rfl (pi_range1 rfl B.rng (pa_cons (pe_call GT (hr.mono (by decide)) rfl AT.g AT.k AT.b .nil pass0 (pa_cons (pv 2) (pa_cons pe_int pa_nil))) pa_nil)) (pg_name (i := 8) scLaw.nd rfl (Or.inl rfl)) (pss_one (ps_set (i := 7) scLaw.nd rfl (Or.inl rfl) (pe_call GSP (hr.mono (by decide)) rfl ASP.g ASP.k ASP.b .nil pass0 (pa_cons (pv 2) (pa_cons (pe_op op_add_str (pv 7) (pe_op op_mulS pe_str (pe_callTy call_int1 (by rfl) T.int (by decide +kernel) (pa_cons (pe_cmpR op_eq (pv 7) pe_str (nomark _)) pa_nil)))) pa_nil))))))
    (pss_one (ps_if (pt_cmpR (op_neD hu64) (pe_call GR (hr.mono (by decide)) rfl AR.g AR.k AR.b .nil pass0 (pa_cons (pv 7) pa_nil)) (pe_call GDU (hr.mono (by decide)) rfl ADU.g ADU.k ADU.b .nil pass0 (pa_cons (pv 7) pa_nil)) (nomark _)) (pss_one (ps_ret pe_bl)) pss_nil)))), ?_⟩
  intro D a ns p m x y z q1 q3 q7 q8 q9 q10 q11 H x0 x1 y0 y1 hz hm far hb q
  obtain ⟨lx, gx⟩ := str_len x x0 (by omega)
  obtain ⟨ly, gy⟩ := str_len y y0 (by omega)
  have small : ∀ {n : Nat}, n ≤ 1000 → n ≤ sizeLine := fun h => size1000 (by omega)
  have lcm : ("," : Str).length = 1 := rfl
  have lsp : (" " : Str).length = 1 := rfl
  refine ⟨_, rfl, _, rfl, gx, _, _, rfl, rfl, small (by rw [lcm]; omega), _, rfl, _, rfl, gy, _, _, rfl, rfl, small (by rw [Str.length_append, lcm]; omega), _, _, rfl, rfl, small (by simp only [Str.length_append, lcm, lsp]; omega), _, rfl, _, _, rfl, rfl, small (by simp only [Str.length_append, lcm, lsp]; omega), ?_⟩
  have lt : ((((Str.ofString (toString x) ++ ("," : Str)) ++ Str.ofString (toString y)) ++ (" " : Str)) ++ z).length ≤ 600 := by
    simp only [Str.length_append, lcm, lsp]
    omega
  generalize (((Str.ofString (toString x) ++ ("," : Str)) ++ Str.ofString (toString y)) ++ (" " : Str)) ++ z = zt at lt
  refine ⟨_, rfl, p, m, 3, rfl, hb, by omega, by decide, by decide, fun laps H1 l0 l1 hb1 k1 => ⟨_, rfl, by omega, by omega, ?_⟩⟩
  refine for_range (lo := 0) (n := laps.toNat) (fun i σ H' => ∃ (zz : Str) (q8 : Option V), σ = [some (.ref a), q1, some (.ref p), q3, some (.int x), some (.int y), some (.str z), some (.str zz), q8, q9, q10, q11] ∧ zz.length ≤ 600 + 2 * i ∧ BoxAt H' p (m + 1 + 3 * i) ∧ But p H1 H') ⟨_, _, rfl, by omega, hb1.le (by omega), fun _ _ _ e => e⟩ ?_ ?_
  · rintro i σ H2 hi ⟨zz, q8, rfl, lz, hb2, k2⟩
    have i3 : i < 3 := by omega
    have hone : ∀ k : Bool, MulOk ("r" : Str) (if k = true then 1 else 0) := fun k => by
      cases k
      · exact mul_0 _
      · exact mul_1 _
    refine ⟨_, rfl, _, rfl, _, rfl, rfl, .inr ⟨_, rfl, _, _, rfl, rfl, hone _, _, _, rfl, rfl, ?_, ?_⟩⟩
    · have := len_mul01 ("r" : Str) (decide (V.str zz = V.str "")) (by decide)
      exact small (by omega)
    · have lm := len_mul01 ("r" : Str) (decide (V.str zz = V.str "")) (by decide)
      refine ⟨p, _, _, rfl, hb2, by omega, by rw [Str.length_append]; omega, fun z' H3 l3 hb3 k3 => ?_⟩
      exact ⟨z', _, rfl, by rw [Str.length_append] at l3; omega, hb3.le (by omega), but_tr k2 k3⟩
  · rintro σ H2 ⟨zz, q8, rfl, lz, hb2, k2⟩
    have la : laps.toNat ≤ 2 := by omega
    have lz2 : zz.length ≤ 700 := by omega
    have hl : zz.cps.toList.length = zz.length := by rw [Array.length_toList]; rfl
    have eS : V.str zz = V.str (S zz.cps.toList) := by rw [S_tl]
    have far2 := (far.but k1).but k2
    have hdu := due_is zz.cps.toList
    refine ⟨_, rfl, V.str zz, some zz.cps.toList, rfl, by rw [eS]; exact .txt _ (by omega), ?_, ?_⟩
    · intro l hl1 b xs H3 s3 h3 d3
      have hw : walkOf zz.cps.toList = some l := hl1
      refine ⟨_, rfl, zz.cps.toList, by rw [S_tl]; rfl, by omega, fun hz => ?_, fun l' hl2 b2 xs2 H4 s4 h4 d4 => ?_⟩
      · rw [hdu, hw] at hz
        cases hz
      · rw [hdu, hw] at hl2
        cases hl2
        obtain ⟨sh, nd⟩ := shaped_res (some l)
        have nd : PyData.hasDictAll (l.map ptD) = false := nd
        refine ⟨resD (some l), resD (some l), .tup (sqt (s4 _ _ h3)) (dvs_dp (d3.more s4) nd), .tup (sqt h4) (dvs_dp d4 nd), sh, sh, _, rfl, ?_⟩
        rw [eqv_res]
        exact q H4 _ _ _ _ _ (far2.but (but_of fun b o e => s4 b o (s3 b o e))) ((hb2.more s3).more s4 |>.le (by omega))
    · intro hn H3 s3
      have hw : walkOf zz.cps.toList = none := hn
      refine ⟨_, rfl, zz.cps.toList, by rw [S_tl]; rfl, by omega, fun hz H4 s4 => ?_, fun l' hl2 => ?_⟩
      · refine ⟨.none, .none, .non, .non, rfl, rfl, _, rfl, ?_⟩
        exact q H4 _ _ _ _ _ (far2.but (but_of fun b o e => s4 b o (s3 b o e))) ((hb2.more s3).more s4 |>.le (by omega))
      · rw [hdu, hw] at hl2
        cases hl2
theorem turn_ok (hr : Room 5 (A.deeper (envOfC "law" (defScope (top 22)) s.heap.objs.size f cdv))) (T : Ta mg) (B : Tb mg) {fT : Addr} {fdT : FuncData} (GT : FnOk P w K mg base CX0 1 fT fdT ["_law_box_here", "_law_many"] spTake) (AT : At K mg "_law_take" fT fdT ["_law_box_here", "_law_many"]) {fSP : Addr} {fdSP : FuncData} (GSP : FnOk P w K mg base CX0 2 fSP fdSP ["_law_box_here", "_law_text"] spSp) (ASP : At K mg "_law_spoilt" fSP fdSP ["_law_box_here", "_law_text"]) {fR : Addr} {fdR : FuncData} (GR : FnOk P w K mg base CX0 5 fR fdR ["_law_value"] (spLR K)) (AR : At K mg "_law_read" fR fdR ["_law_value"]) {fDU : Addr} {fdDU : FuncData} (GDU : FnOk P w K mg base CX0 2 fDU fdDU ["_law_text"] spDue) (ADU : At K mg "_law_due" fDU fdDU ["_law_text"]) : ∃ t, PSs (XL P w K mg base f cdv A outer s H0 E) lawTurn t ∧ ∀ (D : Ends) (a : Addr) (ns : List Int) (p : Addr) (m : Int) (q1 q3 q4 q5 q6 q7 q8 q9 q10 q11 : Option V) (H : Hp),
    m ≤ 39000 → Far K H a (ns.map V.int) p → BoxAt H p m → Nxt K a ns p (m + 40) q1 q3 q9 q10 q11 D → t D [some (.ref a), q1, some (.ref p), q3, q4, q5, q6, q7, q8, q9, q10, q11] H := by
  obtain ⟨t, ht, go⟩ := tail4 (P := P) (w := w) (K := K) (mg := mg) (base := base) (f := f) (cdv := cdv) (A := A) (outer := outer) (s := s) (H0 := H0) (E := E) hr T B GT AT GSP ASP GR AR GDU ADU
  refine ⟨_, (pss_cons (ps_set (i := 4) scLaw.nd rfl (Or.inl rfl) (pe_ix ix_list (pe_lst (pa_cons (pe_call GT (hr.mono (by decide)) rfl AT.g AT.k AT.b .nil pass0 (pa_cons (pv 2) (pa_cons pe_int pa_nil))) (pa_cons (pe_ix ix_list (pe_lst (pa_cons pe_int (pa_cons pe_int pa_nil))) (pe_call GT (hr.mono (by decide)) rfl AT.g AT.k AT.b .nil pass0 (pa_cons (pv 2) (pa_cons pe_int pa_nil))) (fun _ _ => rfl)) pa_nil))) (pe_call GT (hr.mono (by decide)) rfl AT.g AT.k AT.b .nil pass0 (pa_cons (pv 2) (pa_cons pe_int pa_nil))) (fun _ _ => rfl)))
    (pss_cons (ps_set (i := 5) scLaw.nd rfl (Or.inl rfl) (pe_ix ix_list (pe_lst (pa_cons (pe_call GT (hr.mono (by decide)) rfl AT.g AT.k AT.b .nil pass0 (pa_cons (pv 2) (pa_cons pe_int pa_nil))) (pa_cons (pe_ix ix_list (pe_lst (pa_cons pe_int (pa_cons pe_int pa_nil))) (pe_call GT (hr.mono (by decide)) rfl AT.g AT.k AT.b .nil pass0 (pa_cons (pv 2) (pa_cons pe_int pa_nil))) (fun _ _ => rfl)) pa_nil))) (pe_call GT (hr.mono (by decide)) rfl AT.g AT.k AT.b .nil pass0 (pa_cons (pv 2) (pa_cons pe_int pa_nil))) (fun _ _ => rfl)))
    (pss_cons (ps_set (i := 6) scLaw.nd rfl (Or.inl rfl) (pe_join pe_str (pe_lc (own := [("_law_step_here", 11)]) (g := gName 11) (tt := tYes) rfl scLaw.nd (pi_range1 rfl B.rng (pa_cons (pe_op op_add pe_int (pe_call GT (hr.mono (by decide)) rfl AT.g AT.k AT.b .nil pass0 (pa_cons (pv 2) (pa_cons pe_int pa_nil)))) pa_nil)) (blkOk_by (N := ["_law_script", "_law_k", "_law_box_here", "_law_turn", "_law_x", "_law_y", "_law_signs", "_law_text", "_law_lap", "_law_some", "_law_value", "_law_step_here"]) (sc := defScope (top 22)) (by decide +kernel)) (fun _ _ _ _ _ => pg_name (i := 11) scLaw.nd rfl (Or.inl rfl)) (fun _ _ _ _ _ => pts_nil) (fun _ _ _ _ _ => pe_ix ix_str pe_str (pe_call GT (hr.mono (by decide)) rfl AT.g AT.k AT.b .nil pass0 (pa_cons (pv 2) (pa_cons pe_int pa_nil))) (fun _ _ => rfl)))))
    (pss_cons (ps_if (pt_cmpR op_eq (pe_call GT (hr.mono (by decide)) rfl AT.g AT.k AT.b .nil pass0 (pa_cons (pv 2) (pa_cons pe_int pa_nil))) pe_int (nomark _)) (pss_cons (ps_set (i := 6) scLaw.nd rfl (Or.inl rfl) (pe_op op_mulS (pe_ix ix_list (pe_lst (pa_cons pe_str (pa_cons pe_str (pa_cons pe_str pa_nil)))) (pe_call GT (hr.mono (by decide)) rfl AT.g AT.k AT.b .nil pass0 (pa_cons (pv 2) (pa_cons pe_int pa_nil))) (fun _ _ => rfl)) pe_int)) (pss_one (ps_set (i := 6) scLaw.nd rfl (Or.inl rfl) (pe_slice sl_str (pv 6) po_none (po_some (pe_op op_add pe_int (pe_call GT (hr.mono (by decide)) rfl AT.g AT.k AT.b .nil pass0 (pa_cons (pv 2) (pa_cons pe_int pa_nil))))))))) pss_nil)
    ht)))), ?_⟩
  intro D a ns p m q1 q3 q4 q5 q6 q7 q8 q9 q10 q11 H hm far hb q
  refine ⟨_, rfl, p, m, 33, rfl, hb, by omega, by decide, by decide, fun a_x Ha_x a_x0 a_x1 hba_x ka_x => ⟨(by show 2 ≤ sizeLine; decide), fun l_x n_x => ?_⟩⟩
  have hbb_x : BoxAt (upd Ha_x l_x (.lst [.int 0, .int 30])) p (m + 1) := hba_x.more fun b o e => stay e n_x
  have ne_x := hba_x.ne n_x
  refine ⟨_, rfl, p, m + 1, 2, rfl, hbb_x, by omega, by decide, by decide, fun b_x Hb_x b_x0 b_x1 hbc_x kb_x => ?_⟩
  obtain ⟨u_x, eu_x, u_x0, u_x1⟩ : ∃ u : Int, atI [V.int 0, .int 30] b_x = some (.int u) ∧ 0 ≤ u ∧ u ≤ 32 := by
    have z : b_x = 0 ∨ b_x = 1 := by omega
    rcases z with h | h
    · exact ⟨0, by rw [h]; rfl, by decide, by decide⟩
    · exact ⟨30, by rw [h]; rfl, by decide, by decide⟩
  refine ⟨l_x, _, _, _, rfl, rfl, SqL.of (kb_x _ _ ne_x upd_same), eu_x, (by show 2 ≤ sizeLine; decide), fun l2_x n2_x => ?_⟩
  have hbd_x : BoxAt (upd Hb_x l2_x (.lst [.int a_x, .int u_x])) p (m + 1 + 1) := hbc_x.more fun b o e => stay e n2_x
  have ne2_x := hbc_x.ne n2_x
  refine ⟨_, rfl, p, m + 1 + 1, 2, rfl, hbd_x, by omega, by decide, by decide, fun c_x Hc_x c_x0 c_x1 hbe_x kc_x => ?_⟩
  obtain ⟨x_x, ex_x, x_x0, x_x1⟩ : ∃ u : Int, atI [V.int a_x, .int u_x] c_x = some (.int u) ∧ 0 ≤ u ∧ u ≤ 32 := by
    have z : c_x = 0 ∨ c_x = 1 := by omega
    rcases z with h | h
    · exact ⟨a_x, by rw [h]; rfl, by omega, by omega⟩
    · exact ⟨u_x, by rw [h]; rfl, by omega, by omega⟩
  refine ⟨l2_x, _, _, _, rfl, rfl, SqL.of (kc_x _ _ ne2_x upd_same), ex_x, ?_⟩
  have kk_x : But p H Hc_x := but_tr (but_tr (but_tr (but_tr ka_x (but_of fun b o e => stay e n_x)) kb_x) (but_of fun b o e => stay e n2_x)) kc_x
  have hbe3 : BoxAt Hc_x p (m + 3) := hbe_x.le (by omega)
  refine ⟨_, rfl, p, (m + 3), 33, rfl, hbe3, by omega, by decide, by decide, fun a_y Ha_y a_y0 a_y1 hba_y ka_y => ⟨(by show 2 ≤ sizeLine; decide), fun l_y n_y => ?_⟩⟩
  have hbb_y : BoxAt (upd Ha_y l_y (.lst [.int 0, .int 30])) p ((m + 3) + 1) := hba_y.more fun b o e => stay e n_y
  have ne_y := hba_y.ne n_y
  refine ⟨_, rfl, p, (m + 3) + 1, 2, rfl, hbb_y, by omega, by decide, by decide, fun b_y Hb_y b_y0 b_y1 hbc_y kb_y => ?_⟩
  obtain ⟨u_y, eu_y, u_y0, u_y1⟩ : ∃ u : Int, atI [V.int 0, .int 30] b_y = some (.int u) ∧ 0 ≤ u ∧ u ≤ 32 := by
    have z : b_y = 0 ∨ b_y = 1 := by omega
    rcases z with h | h
    · exact ⟨0, by rw [h]; rfl, by decide, by decide⟩
    · exact ⟨30, by rw [h]; rfl, by decide, by decide⟩
  refine ⟨l_y, _, _, _, rfl, rfl, SqL.of (kb_y _ _ ne_y upd_same), eu_y, (by show 2 ≤ sizeLine; decide), fun l2_y n2_y => ?_⟩
  have hbd_y : BoxAt (upd Hb_y l2_y (.lst [.int a_y, .int u_y])) p ((m + 3) + 1 + 1) := hbc_y.more fun b o e => stay e n2_y
  have ne2_y := hbc_y.ne n2_y
  refine ⟨_, rfl, p, (m + 3) + 1 + 1, 2, rfl, hbd_y, by omega, by decide, by decide, fun c_y Hc_y c_y0 c_y1 hbe_y kc_y => ?_⟩
  obtain ⟨x_y, ex_y, x_y0, x_y1⟩ : ∃ u : Int, atI [V.int a_y, .int u_y] c_y = some (.int u) ∧ 0 ≤ u ∧ u ≤ 32 := by
    have z : c_y = 0 ∨ c_y = 1 := by omega
    rcases z with h | h
    · exact ⟨a_y, by rw [h]; rfl, by omega, by omega⟩
    · exact ⟨u_y, by rw [h]; rfl, by omega, by omega⟩
  refine ⟨l2_y, _, _, _, rfl, rfl, SqL.of (kc_y _ _ ne2_y upd_same), ex_y, ?_⟩
  have kk_y : But p Hc_x Hc_y := but_tr (but_tr (but_tr (but_tr ka_y (but_of fun b o e => stay e n_y)) kb_y) (but_of fun b o e => stay e n2_y)) kc_y

  have nx2 : ∀ (m' : Int) (q9 q10 q11 : Option V), True := fun _ _ _ _ => trivial
  refine ⟨⟨_, rfl⟩, _, rfl, p, m + 6, 12, rfl, hbe_y.le (by omega), by omega, by decide, by decide, fun r Hr r0 r1 hbr kr => ⟨_, _, rfl, rfl, _, rfl, by omega, by omega, fun Dd nD => ?_⟩⟩
  have nDp := hbr.ne nD
  refine lc_range (lo := 0) (n := (1 + r).toNat) (fun i H' => ∃ cs : List Nat, H' Dd = some (.lst (cs.map fun c => V.str ⟨#[c]⟩)) ∧ cs.length = i ∧ BoxAt H' p (m + 6 + 1 + i) ∧ But p Hr H') ⟨[], upd_same, rfl, (hbr.more fun b o e => stay e nD).le (by omega), but_of fun b o e => stay e nD⟩ ?_ ?_
  · rintro i H2 hi ⟨cs, h2, lc, hb2, k2⟩
    refine ⟨rfl, _, rfl, p, _, 4, rfl, hb2, by omega, by decide, by decide, fun d Hd d0 d1 hbd kd => ?_⟩
    obtain ⟨c, hc⟩ := ruld4 d0 d1
    have h3 := kd _ _ nDp h2
    refine ⟨_, d, c, rfl, rfl, (by decide +kernel), hc, _, h3, ?_, cs ++ [c], ?_, ?_, ?_, ?_⟩
    · rw [List.length_map]
      exact Nat.lt_of_le_of_lt (show cs.length ≤ 20 by omega) (by decide)
    · rw [upd_same, List.map_append]
      rfl
    · rw [List.length_append, lc]
      rfl
    · obtain ⟨b0, b1, b2, g1, g2⟩ := hbd
      refine ⟨b0, b1, b2, ?_, g2.1, g2.2.1, g2.2.2.1, by have := g2.2.2.2; omega⟩
      rw [upd_ne (Ne.symm nDp)]
      exact g1
    · intro b o nb e
      have ne : b ≠ Dd := fun y => by
        rw [y, nD] at e
        cases e
      rw [upd_ne ne]
      exact kd b o nb (k2 b o nb e)
  · rintro H2 ⟨cs, h2, lc, hb2, k2⟩
    have lcs : cs.length ≤ 12 := by omega
    have em : (cs.map fun c => V.str (⟨#[c]⟩ : Str)) = (cs.map fun c => (⟨#[c]⟩ : Str)).map V.str := by
      rw [List.map_map]
      rfl
    rw [em] at h2
    have jl := join_sg cs
    have kk : But p H H2 := but_tr (but_tr (but_tr kk_x kk_y) kr) k2
    refine ⟨_, Dd, _, rfl, rfl, .inl (SqL.of h2), ?_, ?_⟩
    · have e : ∀ l : List Nat, ((l.map fun c => (⟨#[c]⟩ : Str)).map (·.length)).sum = l.length := by
        intro l
        induction l with
        | nil => rfl
        | cons c r ih =>
          simp only [List.map_cons, List.sum_cons, List.length_cons, ih]
          have : (⟨#[c]⟩ : Str).length = 1 := rfl
          omega
      rw [e, List.length_map]
      have : ("" : Str).length = 0 := rfl
      rw [this]
      omega
    · refine ⟨_, rfl, p, _, 8, rfl, hb2, by omega, by decide, by decide, fun d H3 d0 d1 hb3 k3 => ⟨rfl, _, rfl, ?_⟩⟩
      refine ite2 (fun _ => ?_) (fun _ => ?_)
      · refine ⟨(by show 3 ≤ sizeLine; decide), fun l nl => ?_⟩
        have nel := hb3.ne nl
        refine ⟨_, rfl, p, _, 3, rfl, hb3.more fun b o e => stay e nl, by omega, by decide, by decide, fun e H4 e0 e1 hb4 k4 => ?_⟩
        obtain ⟨z, ez, lz⟩ : ∃ z : Str, atI [V.str "rl", .str "ud", .str "ruld"] e = some (.str z) ∧ z.length ≤ 4 := by
          have zz : e = 0 ∨ e = 1 ∨ e = 2 := by omega
          rcases zz with h | h | h
          · exact ⟨"rl", by rw [h]; rfl, by decide⟩
          · exact ⟨"ud", by rw [h]; rfl, by decide⟩
          · exact ⟨"ruld", by rw [h]; rfl, by decide⟩
        have lm := len_mul201 lz
        refine ⟨l, _, _, _, rfl, rfl, SqL.of (k4 _ _ nel upd_same), ez, z, 201, rfl, rfl, mul_201 lz, ?_⟩
        refine ⟨_, rfl, _, rfl, p, _, 2, rfl, hb4, by omega, by decide, by decide, fun g H5 g0 g1 hb5 k5 => ⟨_, _, rfl, rfl, _, rfl, _, rfl, size1000 (by omega), ?_⟩⟩
        have lcut := cut_to (Txt.mul z 201) (i := 400 + g) (by omega)
        refine go D a ns p (m + 25) x_x x_y _ q1 q3 q7 q8 q9 q10 q11 H5 x_x0 x_x1 x_y0 x_y1 (by omega) (by omega) (far.but (but_tr (but_tr (but_tr (but_tr kk k3) (but_of fun b o e => stay e nl)) k4) k5)) (hb5.le (by omega)) ?_
        exact fun H' q4 q5 q6 q7 q8 f b => q H' q4 q5 q6 q7 q8 f (b.le (by omega))
      · refine go D a ns p (m + 25) x_x x_y _ q1 q3 q7 q8 q9 q10 q11 H3 x_x0 x_x1 x_y0 x_y1 (by omega) (by omega) (far.but (but_tr kk k3)) (hb3.le (by omega)) ?_
        exact fun H' q4 q5 q6 q7 q8 f b => q H' q4 q5 q6 q7 q8 f (b.le (by omega))
end
end T1
set_option Elab.async false
set_option linter.all false
set_option maxRecDepth 100000
set_option maxHeartbeats 16000000
namespace T1
open PySem PySem.Spec PyProof.Rows L2 Nv SX
structure Tm (mg : Str → Option Value) : Prop where
  min : mg "min" = none
/-- read_walk refuses it -/
def It (K : PySem.W.Frag) (H : Hp) (v : V) : Prop := ∃ o, Ask K H v o ∧ askW o = none
theorem Ask.more {K : PySem.W.Frag} {H H' : Hp} {v : V} {o : Option (List Nat)} (k : Same H H') (h : Ask K H v o) : Ask K H' v o := by
  cases h with
  | txt t l => exact .txt t l
  | dat dv n => exact .dat (dv.more k) n
  | exc x c q => exact .exc (x.more k) c q
theorem It.more {K : PySem.W.Frag} {H H' : Hp} {v : V} (k : Same H H') (h : It K H v) : It K H' v := by
  obtain ⟨o, a, e⟩ := h
  exact ⟨o, a.more k, e⟩
theorem it_str {K : PySem.W.Frag} {H : Hp} (z : Str) (h : walkOf z.cps.toList = none) (l : z.cps.toList.length ≤ 1000) : It K H (.str z) := by
  have e : V.str z = V.str (S z.cps.toList) := by rw [S_tl]
  rw [e]
  exact ⟨some _, .txt _ l, h⟩
theorem it_dat {K : PySem.W.Frag} {H : Hp} {v : V} {d : PyData} (h : DV H v d) (n : strish d = false) : It K H v := ⟨none, .dat h n, rfl⟩
def ItAll (K : PySem.W.Frag) (H : Hp) : List V → Prop
  | [] => True
  | v :: r => It K H v ∧ ItAll K H r
theorem ItAll.mem {K : PySem.W.Frag} {H : Hp} : ∀ {l : List V}, ItAll K H l → ∀ v ∈ l, It K H v
  | [], _, _, h => nomatch h
  | x :: r, h, v, hv => by
    rcases List.mem_cons.mp hv with rfl | hv
    · exact h.1
    · exact h.2.mem v hv
section
variable {P : Program} {w : World} {K : PySem.W.Frag} {mg : Str → Option Value} {base : Heap} {C fI : Addr} {fdI : FuncData}
theorem ok_law {f : Addr} {fd : FuncData} (F : Fun K "law" "law" (top 22) f fd) (T0 : Txt0 mg) (T : Ta mg) (B : Tb mg) (M : Tm mg) (X : Tx K mg C fI) (GI : FnOk P w K mg base CX0 1 fI fdI ["self", "value"] (spIni K)) (bI : Binds K fdI ["self", "value"] []) (cx : XCls K C) (kx : PySem.W.kitOne K (.ref C) (.type "str") = some false)
    {fC : Addr} {fdC : FuncData} (GC : FnOk P w K mg base CX0 1 fC fdC ["_law_script", "_law_k"] (spCell K)) (AC : At K mg "_law_cell_at" fC fdC ["_law_script", "_law_k"]) {fB : Addr} {fdB : FuncData} (GB : FnOk P w K mg base CX0 1 fB fdB ["_law_cell"] spBox) (AB : At K mg "_law_box" fB fdB ["_law_cell"]) {fT : Addr} {fdT : FuncData} (GT : FnOk P w K mg base CX0 1 fT fdT ["_law_box_here", "_law_many"] spTake) (AT : At K mg "_law_take" fT fdT ["_law_box_here", "_law_many"]) {fSP : Addr} {fdSP : FuncData} (GSP : FnOk P w K mg base CX0 2 fSP fdSP ["_law_box_here", "_law_text"] spSp) (ASP : At K mg "_law_spoilt" fSP fdSP ["_law_box_here", "_law_text"]) {fR : Addr} {fdR : FuncData} (GR : FnOk P w K mg base CX0 5 fR fdR ["_law_value"] (spLR K)) (AR : At K mg "_law_read" fR fdR ["_law_value"]) {fDU : Addr} {fdDU : FuncData} (GDU : FnOk P w K mg base CX0 2 fDU fdDU ["_law_text"] spDue) (ADU : At K mg "_law_due" fDU fdDU ["_law_text"]) : FnG P w K mg base 6 f fd ["_law_script"] (spLaw K) := by
  refine FnG.made F scLaw (fun vs H Q E h => ?_) (fun cdv A outer s H vs Q E gd hr h => ?_)
  · obtain ⟨a, ns, rfl, _⟩ := h
    rfl
  · obtain ⟨a, ns, rfl, hS, hlen, q⟩ := h
    obtain ⟨tT, hT, goT⟩ := turn_ok (P := P) (w := w) (K := K) (mg := mg) (base := base) (f := f) (cdv := cdv) (A := A) (outer := outer) (s := s) (H0 := H) (E := E) hr T B GT AT GSP ASP GR AR GDU ADU
    refine ⟨_, (pss_cons (ps_for PassesOwn.never rfl (pi_range1 rfl B.rng (pa_cons (pe_callB (call_max2 rfl) (by rfl) T0.max (by decide +kernel) (pa_cons pe_int (pa_cons (pe_callB (call_min2 rfl) (by rfl) M.min (by decide +kernel) (pa_cons (pe_callB call_len_seq (by rfl) T0.len PySem.boot_len (pa_cons (pv 0) pa_nil)) (pa_cons pe_int pa_nil))) pa_nil))) pa_nil)) (pg_name (i := 1) scLaw.nd rfl (Or.inl rfl)) (pss_cons (ps_set (i := 2) scLaw.nd rfl (Or.inr rfl) (pe_call GB (hr.mono (by decide)) rfl AB.g AB.k AB.b .nil pass0 (pa_cons (pe_call GC (hr.mono (by decide)) rfl AC.g AC.k AC.b .nil pass0 (pa_cons (pv 0) (pa_cons (pv 1) pa_nil))) pa_nil)))
    (pss_one (ps_for PassesOwn.never rfl (pi_range1 rfl B.rng (pa_cons pe_int pa_nil)) (pg_name (i := 3) scLaw.nd rfl (Or.inl rfl)) hT))))
    (pss_cons (ps_set (i := 9) scLaw.nd rfl (Or.inl rfl) (pe_lst (pa_cons pe_non (pa_cons pe_int (pa_cons pe_bl (pa_cons (pe_lst pa_nil) (pa_cons (pe_tup (pa_cons pe_str pa_nil)) (pa_cons pe_dnewK (pa_cons pe_str (pa_cons pe_str (pa_cons pe_str (pa_cons pe_str (pa_cons pe_str (pa_cons pe_str (pa_cons pe_str (pa_cons pe_str (pa_cons pe_str pa_nil)))))))))))))))))
    (pss_cons (ps_for PassesOwn.never rfl (pi_list (pe_op op_cat (pv 9) (pe_lst (pa_cons pe_str (pa_cons pe_str (pa_cons pe_str (pa_cons pe_str (pa_cons pe_str (pa_cons (pe_mkx X.xc.mx GI (hr.mono (by decide)) bI (by rfl) X.gl pe_int) pa_nil))))))))) (pg_name (i := 10) scLaw.nd rfl (Or.inl rfl)) (pss_one (ps_if (pt_cmpR op_notN (pe_call GR (hr.mono (by decide)) rfl AR.g AR.k AR.b .nil pass0 (pa_cons (pv 10) pa_nil)) pe_non (nomark _)) (pss_one (ps_ret pe_bl)) pss_nil)))
    (pss_one (ps_ret pe_bl))))), ?_⟩
    refine ⟨_, rfl, a, _, rfl, .inl hS, _, _, rfl, _, _, rfl, _, rfl, (rng_ok _).1, (rng_ok _).2.1, ?_⟩
    refine for_range (lo := 0) (fun i σ H' => ∃ o1 o2 o3 o4 o5 o6 o7 o8 o9 o10 o11 : Option V, σ = [some (.ref a), o1, o2, o3, o4, o5, o6, o7, o8, o9, o10, o11] ∧ SqL K H' a (ns.map V.int)) ⟨_, _, _, _, _, _, _, _, _, _, _, rfl, hS⟩ ?_ ?_
    · rintro i σ H1 hi ⟨o1, o2, o3, o4, o5, o6, o7, o8, o9, o10, o11, rfl, hS1⟩
      have i8 : i < 8 := Nat.lt_of_lt_of_le hi (rng_ok _).2.2
      refine ⟨_, rfl, _, rfl, a, ns, _, rfl, hS1, by omega, by omega, fun n0 => ⟨n0, rfl, fun p H2 np sm2 hb2 => ?_⟩⟩
      have far2 : Far K H2 a (ns.map V.int) p := Far.of hS1 np sm2
      refine ⟨6, rfl, by decide, by decide, for_range (lo := 0) (n := 6) (fun j σ H' => ∃ o3 o4 o5 o6 o7 o8 : Option V, σ = [some (.ref a), some (.int (0 + (i : Int))), some (.ref p), o3, o4, o5, o6, o7, o8, o9, o10, o11] ∧ Far K H' a (ns.map V.int) p ∧ BoxAt H' p (40 * j)) ⟨_, _, _, _, _, _, rfl, far2, hb2.le (by omega)⟩ ?_ ?_⟩
      · rintro j σ H3 hj ⟨o3, o4, o5, o6, o7, o8, rfl, far3, hb3⟩
        exact goT _ a ns p (40 * j) _ _ _ _ _ _ _ _ _ _ H3 (by omega) far3 hb3 fun H4 q4 q5 q6 q7 q8 f4 b4 => ⟨_, _, _, _, _, _, rfl, f4, b4.le (by omega)⟩
      · rintro σ H3 ⟨o3, o4, o5, o6, o7, o8, rfl, far3, hb3⟩
        exact ⟨_, _, _, _, _, _, _, _, _, _, _, rfl, far3.seq⟩
    · rintro σ H1 ⟨o1, o2, o3, o4, o5, o6, o7, o8, o9, o10, o11, rfl, _⟩
      refine ⟨(by show 0 ≤ sizeLine; decide), fun l1 n1 => ⟨(by show 1 ≤ sizeLine; decide), fun t1 n2 d1 n3 => ⟨(by show 15 ≤ sizeLine; decide), fun L nL => ?_⟩⟩⟩
      have hl1 : DV (upd (upd (upd H1 l1 (.lst [])) t1 (.tup [.str "0,0 r"])) d1 (.dK [])) (.ref l1) (.list []) := .lst (stay (stay upd_same n2) n3) .nil
      have ht1 : DV (upd (upd (upd H1 l1 (.lst [])) t1 (.tup [.str "0,0 r"])) d1 (.dK [])) (.ref t1) (.tuple [.str "0,0 r"]) := .tup (stay upd_same n3) (.cons (.str _) .nil)
      have hd1 : DV (upd (upd (upd H1 l1 (.lst [])) t1 (.tup [.str "0,0 r"])) d1 (.dK [])) (.ref d1) (.dict []) := .emp upd_same
      generalize upd (upd (upd H1 l1 (.lst [])) t1 (.tup [.str "0,0 r"])) d1 (.dK []) = H2 at hl1 ht1 hd1 nL
      refine ⟨_, rfl, fun ax dx n na nd ne => ⟨(by show 6 ≤ sizeLine; decide), fun L2 nL2 => ?_⟩⟩
      have xin : XIn (upd (upd (upd H2 L (.lst [V.non, .int 3, .bl true, .ref l1, .ref t1, .ref d1, .str "", .str " ", .str "0,0", .str "0,0 ", .str "r", .str "1_0,5 r", .str "5,1_0 u", .str "0, 5 r", .str "+1,5 r"])) dx (exd dx (xf n (.int 1)))) ax (exo ax C (some dx))) ax C := XIn.of_made upd_same (by rw [upd_ne ne]; exact upd_same)
      have s2 : Same H2 (upd H2 L (.lst [V.non, .int 3, .bl true, .ref l1, .ref t1, .ref d1, .str "", .str " ", .str "0,0", .str "0,0 ", .str "r", .str "1_0,5 r", .str "5,1_0 u", .str "0, 5 r", .str "+1,5 r"])) := fun b o e => stay e nL
      have sx : Same (upd H2 L (.lst [V.non, .int 3, .bl true, .ref l1, .ref t1, .ref d1, .str "", .str " ", .str "0,0", .str "0,0 ", .str "r", .str "1_0,5 r", .str "5,1_0 u", .str "0, 5 r", .str "+1,5 r"])) (upd (upd (upd H2 L (.lst [V.non, .int 3, .bl true, .ref l1, .ref t1, .ref d1, .str "", .str " ", .str "0,0", .str "0,0 ", .str "r", .str "1_0,5 r", .str "5,1_0 u", .str "0, 5 r", .str "+1,5 r"])) dx (exd dx (xf n (.int 1)))) ax (exo ax C (some dx))) := fun b o e => stay (stay e nd) (by rw [upd_ne (Ne.symm ne)]; exact na)
      have hL := sx _ _ (upd_same (H := H2) (a := L) (o := .lst [V.non, .int 3, .bl true, .ref l1, .ref t1, .ref d1, .str "", .str " ", .str "0,0", .str "0,0 ", .str "r", .str "1_0,5 r", .str "5,1_0 u", .str "0, 5 r", .str "+1,5 r"]))
      have s3 : Same H2 (upd (upd (upd H2 L (.lst [V.non, .int 3, .bl true, .ref l1, .ref t1, .ref d1, .str "", .str " ", .str "0,0", .str "0,0 ", .str "r", .str "1_0,5 r", .str "5,1_0 u", .str "0, 5 r", .str "+1,5 r"])) dx (exd dx (xf n (.int 1)))) ax (exo ax C (some dx))) := fun b o e => sx b o (s2 b o e)
      generalize upd (upd (upd H2 L (.lst [V.non, .int 3, .bl true, .ref l1, .ref t1, .ref d1, .str "", .str " ", .str "0,0", .str "0,0 ", .str "r", .str "1_0,5 r", .str "5,1_0 u", .str "0, 5 r", .str "+1,5 r"])) dx (exd dx (xf n (.int 1)))) ax (exo ax C (some dx)) = H3 at xin s3 hL nL2 sx
      refine ⟨L, L2, _, _, rfl, rfl, stay hL nL2, upd_same, (by show 21 ≤ sizeLine; decide), fun L3 nL3 => ?_⟩
      have s5 : Same H3 (upd (upd H3 L2 (.lst [V.str "0,5 r ", V.str " 0,5 r", V.str "0,5  r", V.str "0,5 r\n", V.str "0,5,5 r", .ref ax])) L3 (.lst ([V.non, .int 3, .bl true, .ref l1, .ref t1, .ref d1, .str "", .str " ", .str "0,0", .str "0,0 ", .str "r", .str "1_0,5 r", .str "5,1_0 u", .str "0, 5 r", .str "+1,5 r"] ++ [V.str "0,5 r ", V.str " 0,5 r", V.str "0,5  r", V.str "0,5 r\n", V.str "0,5,5 r", .ref ax]))) := fun b o e => stay (stay e nL2) nL3
      have hL3 : upd (upd H3 L2 (.lst [V.str "0,5 r ", V.str " 0,5 r", V.str "0,5  r", V.str "0,5 r\n", V.str "0,5,5 r", .ref ax])) L3 (.lst ([V.non, .int 3, .bl true, .ref l1, .ref t1, .ref d1, .str "", .str " ", .str "0,0", .str "0,0 ", .str "r", .str "1_0,5 r", .str "5,1_0 u", .str "0, 5 r", .str "+1,5 r"] ++ [V.str "0,5 r ", V.str " 0,5 r", V.str "0,5  r", V.str "0,5 r\n", V.str "0,5,5 r", .ref ax])) L3 = some (.lst ([V.non, .int 3, .bl true, .ref l1, .ref t1, .ref d1, .str "", .str " ", .str "0,0", .str "0,0 ", .str "r", .str "1_0,5 r", .str "5,1_0 u", .str "0, 5 r", .str "+1,5 r"] ++ [V.str "0,5 r ", V.str " 0,5 r", V.str "0,5  r", V.str "0,5 r\n", V.str "0,5,5 r", .ref ax])) := upd_same
      generalize upd (upd H3 L2 (.lst [V.str "0,5 r ", V.str " 0,5 r", V.str "0,5  r", V.str "0,5 r\n", V.str "0,5,5 r", .ref ax])) L3 (.lst ([V.non, .int 3, .bl true, .ref l1, .ref t1, .ref d1, .str "", .str " ", .str "0,0", .str "0,0 ", .str "r", .str "1_0,5 r", .str "5,1_0 u", .str "0, 5 r", .str "+1,5 r"] ++ [V.str "0,5 r ", V.str " 0,5 r", V.str "0,5  r", V.str "0,5 r\n", V.str "0,5,5 r", .ref ax])) = H5 at s5 hL3
      have s25 : Same H2 H5 := fun b o e => s5 b o (s3 b o e)
      have all : ItAll K H5 ([V.non, .int 3, .bl true, .ref l1, .ref t1, .ref d1, .str "", .str " ", .str "0,0", .str "0,0 ", .str "r", .str "1_0,5 r", .str "5,1_0 u", .str "0, 5 r", .str "+1,5 r"] ++ [V.str "0,5 r ", V.str " 0,5 r", V.str "0,5  r", V.str "0,5 r\n", V.str "0,5,5 r", .ref ax]) := by
        refine ⟨it_dat .non rfl, it_dat (.int _) rfl, it_dat (.bl _) rfl, it_dat (hl1.more s25) rfl, it_dat (ht1.more s25) rfl, it_dat (hd1.more s25) rfl, it_str "" (by decide +kernel) (by decide +kernel), it_str " " (by decide +kernel) (by decide +kernel), it_str "0,0" (by decide +kernel) (by decide +kernel), it_str "0,0 " (by decide +kernel) (by decide +kernel), it_str "r" (by decide +kernel) (by decide +kernel), it_str "1_0,5 r" (by decide +kernel) (by decide +kernel), it_str "5,1_0 u" (by decide +kernel) (by decide +kernel), it_str "0, 5 r" (by decide +kernel) (by decide +kernel), it_str "+1,5 r" (by decide +kernel) (by decide +kernel), it_str "0,5 r " (by decide +kernel) (by decide +kernel), it_str " 0,5 r" (by decide +kernel) (by decide +kernel), it_str "0,5  r" (by decide +kernel) (by decide +kernel), it_str "0,5 r\n" (by decide +kernel) (by decide +kernel), it_str "0,5,5 r" (by decide +kernel) (by decide +kernel), ⟨none, .exc (xin.more s5) cx kx, rfl⟩, trivial⟩
      have hL3' : ∃ xs, SqL K H5 L3 xs := ⟨_, SqL.of hL3⟩
      refine ⟨L3, rfl, hL3', for_list (K := K) (a := L3) (xs := [V.non, .int 3, .bl true, .ref l1, .ref t1, .ref d1, .str "", .str " ", .str "0,0", .str "0,0 ", .str "r", .str "1_0,5 r", .str "5,1_0 u", .str "0, 5 r", .str "+1,5 r"] ++ [V.str "0,5 r ", V.str " 0,5 r", V.str "0,5  r", V.str "0,5 r\n", V.str "0,5,5 r", .ref ax]) (fun j σ H' => ∃ o10 : Option V, σ = [some (.ref a), o1, o2, o3, o4, o5, o6, o7, o8, some (.ref L), o10, o11] ∧ Same H5 H') ⟨_, rfl, fun _ _ e => e⟩ ?_ ?_ ?_⟩
      · rintro j σ H6 hj ⟨o10, rfl, s6⟩
        exact SqL.of (s6 _ _ hL3)
      · rintro j v σ H6 hv ⟨o10, rfl, s6⟩
        obtain ⟨ob, ask, hn⟩ := (all.mem v (List.mem_of_getElem? hv)).more s6
        refine ⟨_, rfl, v, ob, rfl, ask, fun l hl => (by rw [hn] at hl; cases hl), fun _ H7 s7 => ⟨rfl, _, rfl, iteNS rfl ?_⟩⟩
        exact ⟨_, rfl, fun b o e => s7 b o (s6 b o e)⟩
      · rintro σ H6 ⟨o10, rfl, s6⟩
        exact q H6
end
end T1
set_option Elab.async false
set_option linter.all false
set_option maxRecDepth 100000
set_option maxHeartbeats 16000000
namespace T1
open PySem PySem.Spec PyProof.Rows L2 Nv SX
def intK (u : Option (Option Value)) (i : Int) : Bool := match u with
  | some (some (.int j _)) => decide (j = i)
  | _ => false
theorem intK_of {u : Option (Option Value)} {i : Int} (h : intK u i = true) : ∃ t, u = some (some (.int i t)) := by
  unfold intK at h
  split at h
  · exact ⟨_, by rw [of_decide_eq_true h]⟩
  · cases h
def tabB (K : PySem.W.Frag) (fI C : Addr) : Bool := metaB K fI && (classB K C fI && (PySem.W.exmOne K (.ref C) (.ref C) == some true && PySem.W.kitOne K (.ref C) (.type "str") == some false))

theorem all_mk {P : Program} {w : World} {K : PySem.W.Frag} {h : Heap} {mg : Str → Option Value} {fa fI C0 C1 aS f0 f1 f2 f3 f4 f5 f6 f7 f8 f9 f10 f11 f12 f13 : Addr} (X : K.In h) (G : h.Ns mainGlobals mg) (hfa : mg "law" = some (.ref fa))
    {od0 an0 od1 an1 od2 an2 od3 an3 od4 an4 od5 an5 od6 an6 od7 an7 od8 an8 od9 an9 od10 an10 od11 an11 od12 an12 od13 an13 odI anI : Option Addr} {sl0 sl1 sl2 sl3 sl4 sl5 sl6 sl7 sl8 sl9 sl10 sl11 sl12 sl13 slI : Array (Option Value)} {oc0 kV0 dc0 pm0 cd0 ct0 oc1 kV1 dc1 pm1 cd1 ct1 oc2 kV2 dc2 pm2 cd2 ct2 oc3 kV3 dc3 pm3 cd3 ct3 oc4 kV4 dc4 pm4 cd4 ct4 oc5 kV5 dc5 pm5 cd5 ct5 oc6 kV6 dc6 pm6 cd6 ct6 oc7 kV7 dc7 pm7 cd7 ct7 oc8 kV8 dc8 pm8 cd8 ct8 oc9 kV9 dc9 pm9 cd9 ct9 oc10 kV10 dc10 pm10 cd10 ct10 oc11 kV11 dc11 pm11 cd11 ct11 oc12 kV12 dc12 pm12 cd12 ct12 oc13 kV13 dc13 pm13 cd13 ct13 ocI kVI dcI pmI cdI ctI : Value}
    (e0 : PySem.W.nsIn K mainGlobals "BadText" = some (some (.ref C0)))
    (e1 : PySem.W.nsIn K mainGlobals "NevercrossedError" = some (some (.ref C1)))
    (aI : PySem.W.findIn K (.ref C1) "__init__" = some (some (.ref fI))) (lI : K.lookup fI = some ⟨ocI, odI, .func (PySem.W.fnOf "__init__" "NevercrossedError.__init__" (defArgs sIni) (defBody sIni) (defScope sIni) .none kVI dcI pmI anI cdI ctI), slI⟩) (cI : PySem.W.codeIn K cdI "NevercrossedError.__init__" = true) (kI : PySem.W.keepIn K (.ref fI) = true)
    (a0 : PySem.W.nsIn K mainGlobals "is_integer" = some (some (.ref f0))) (l0 : K.lookup f0 = some ⟨oc0, od0, .func (PySem.W.fnOf "is_integer" "is_integer" (defArgs (top 6)) (defBody (top 6)) (defScope (top 6)) .none kV0 dc0 pm0 an0 cd0 ct0), sl0⟩) (c0 : PySem.W.codeIn K cd0 "is_integer" = true) (k0 : PySem.W.keepIn K (.ref f0) = true)
    (a1 : PySem.W.nsIn K mainGlobals "is_point" = some (some (.ref f1))) (l1 : K.lookup f1 = some ⟨oc1, od1, .func (PySem.W.fnOf "is_point" "is_point" (defArgs (top 7)) (defBody (top 7)) (defScope (top 7)) .none kV1 dc1 pm1 an1 cd1 ct1), sl1⟩) (c1 : PySem.W.codeIn K cd1 "is_point" = true) (k1 : PySem.W.keepIn K (.ref f1) = true)
    (a2 : PySem.W.nsIn K mainGlobals "read_walk" = some (some (.ref f2))) (l2 : K.lookup f2 = some ⟨oc2, od2, .func (PySem.W.fnOf "read_walk" "read_walk" (defArgs (top 10)) (defBody (top 10)) (defScope (top 10)) .none kV2 dc2 pm2 an2 cd2 ct2), sl2⟩) (c2 : PySem.W.codeIn K cd2 "read_walk" = true) (k2 : PySem.W.keepIn K (.ref f2) = true)
    (a3 : PySem.W.nsIn K mainGlobals "_read_point" = some (some (.ref f3))) (l3 : K.lookup f3 = some ⟨oc3, od3, .func (PySem.W.fnOf "_read_point" "_read_point" (defArgs (top 11)) (defBody (top 11)) (defScope (top 11)) .none kV3 dc3 pm3 an3 cd3 ct3), sl3⟩) (c3 : PySem.W.codeIn K cd3 "_read_point" = true) (k3 : PySem.W.keepIn K (.ref f3) = true)
    (a4 : PySem.W.nsIn K mainGlobals "_is_coordinate" = some (some (.ref f4))) (l4 : K.lookup f4 = some ⟨oc4, od4, .func (PySem.W.fnOf "_is_coordinate" "_is_coordinate" (defArgs (top 12)) (defBody (top 12)) (defScope (top 12)) .none kV4 dc4 pm4 an4 cd4 ct4), sl4⟩) (c4 : PySem.W.codeIn K cd4 "_is_coordinate" = true) (k4 : PySem.W.keepIn K (.ref f4) = true)
    (a5 : PySem.W.nsIn K mainGlobals "_law_cell_at" = some (some (.ref f5))) (l5 : K.lookup f5 = some ⟨oc5, od5, .func (PySem.W.fnOf "_law_cell_at" "_law_cell_at" (defArgs sCell) (defBody sCell) (defScope sCell) .none kV5 dc5 pm5 an5 cd5 ct5), sl5⟩) (c5 : PySem.W.codeIn K cd5 "_law_cell_at" = true) (k5 : PySem.W.keepIn K (.ref f5) = true)
    (a6 : PySem.W.nsIn K mainGlobals "_law_box" = some (some (.ref f6))) (l6 : K.lookup f6 = some ⟨oc6, od6, .func (PySem.W.fnOf "_law_box" "_law_box" (defArgs sBox) (defBody sBox) (defScope sBox) .none kV6 dc6 pm6 an6 cd6 ct6), sl6⟩) (c6 : PySem.W.codeIn K cd6 "_law_box" = true) (k6 : PySem.W.keepIn K (.ref f6) = true)
    (a7 : PySem.W.nsIn K mainGlobals "_law_take" = some (some (.ref f7))) (l7 : K.lookup f7 = some ⟨oc7, od7, .func (PySem.W.fnOf "_law_take" "_law_take" (defArgs sTake) (defBody sTake) (defScope sTake) .none kV7 dc7 pm7 an7 cd7 ct7), sl7⟩) (c7 : PySem.W.codeIn K cd7 "_law_take" = true) (k7 : PySem.W.keepIn K (.ref f7) = true)
    (a8 : PySem.W.nsIn K mainGlobals "_law_step" = some (some (.ref f8))) (l8 : K.lookup f8 = some ⟨oc8, od8, .func (PySem.W.fnOf "_law_step" "_law_step" (defArgs (top 17)) (defBody (top 17)) (defScope (top 17)) .none kV8 dc8 pm8 an8 cd8 ct8), sl8⟩) (c8 : PySem.W.codeIn K cd8 "_law_step" = true) (k8 : PySem.W.keepIn K (.ref f8) = true)
    (a9 : PySem.W.nsIn K mainGlobals "_law_number" = some (some (.ref f9))) (l9 : K.lookup f9 = some ⟨oc9, od9, .func (PySem.W.fnOf "_law_number" "_law_number" (defArgs (top 18)) (defBody (top 18)) (defScope (top 18)) .none kV9 dc9 pm9 an9 cd9 ct9), sl9⟩) (c9 : PySem.W.codeIn K cd9 "_law_number" = true) (k9 : PySem.W.keepIn K (.ref f9) = true)
    (a10 : PySem.W.nsIn K mainGlobals "_law_due" = some (some (.ref f10))) (l10 : K.lookup f10 = some ⟨oc10, od10, .func (PySem.W.fnOf "_law_due" "_law_due" (defArgs (top 19)) (defBody (top 19)) (defScope (top 19)) .none kV10 dc10 pm10 an10 cd10 ct10), sl10⟩) (c10 : PySem.W.codeIn K cd10 "_law_due" = true) (k10 : PySem.W.keepIn K (.ref f10) = true)
    (a11 : PySem.W.nsIn K mainGlobals "_law_read" = some (some (.ref f11))) (l11 : K.lookup f11 = some ⟨oc11, od11, .func (PySem.W.fnOf "_law_read" "_law_read" (defArgs (top 20)) (defBody (top 20)) (defScope (top 20)) .none kV11 dc11 pm11 an11 cd11 ct11), sl11⟩) (c11 : PySem.W.codeIn K cd11 "_law_read" = true) (k11 : PySem.W.keepIn K (.ref f11) = true)
    (a12 : PySem.W.nsIn K mainGlobals "_law_spoilt" = some (some (.ref f12))) (l12 : K.lookup f12 = some ⟨oc12, od12, .func (PySem.W.fnOf "_law_spoilt" "_law_spoilt" (defArgs (top 21)) (defBody (top 21)) (defScope (top 21)) .none kV12 dc12 pm12 an12 cd12 ct12), sl12⟩) (c12 : PySem.W.codeIn K cd12 "_law_spoilt" = true) (k12 : PySem.W.keepIn K (.ref f12) = true)
    (a13 : PySem.W.nsIn K mainGlobals "law" = some (some (.ref f13))) (l13 : K.lookup f13 = some ⟨oc13, od13, .func (PySem.W.fnOf "law" "law" (defArgs (top 22)) (defBody (top 22)) (defScope (top 22)) .none kV13 dc13 pm13 an13 cd13 ct13), sl13⟩) (c13 : PySem.W.codeIn K cd13 "law" = true) (k13 : PySem.W.keepIn K (.ref f13) = true)
    (z_isinstance : PySem.W.nsIn K mainGlobals "isinstance" = some none)
    (z_int : PySem.W.nsIn K mainGlobals "int" = some none)
    (z_bool : PySem.W.nsIn K mainGlobals "bool" = some none)
    (z_tuple : PySem.W.nsIn K mainGlobals "tuple" = some none)
    (z_str : PySem.W.nsIn K mainGlobals "str" = some none)
    (z_len : PySem.W.nsIn K mainGlobals "len" = some none)
    (z_min : PySem.W.nsIn K mainGlobals "min" = some none)
    (z_max : PySem.W.nsIn K mainGlobals "max" = some none)
    (z_range : PySem.W.nsIn K mainGlobals "range" = some none)
    (z_all : PySem.W.nsIn K mainGlobals "all" = some none)
    (tL : intK (PySem.W.nsIn K mainGlobals "LAST") 30 = true) (tM : intK (PySem.W.nsIn K mainGlobals "MOST_POINTS") 401 = true)
    (gS : PySem.W.nsIn K mainGlobals "STEPS" = some (some (.ref aS))) (dS : He.dicW K aS = some (He.keysIn w.params ["r", "u", "l", "d"]))
    (sr : pairK K (PySem.W.nsIn K aS "r") 1 0 = true) (su : pairK K (PySem.W.nsIn K aS "u") 0 1 = true) (sl : pairK K (PySem.W.nsIn K aS "l") (-1) 0 = true) (sd : pairK K (PySem.W.nsIn K aS "d") 0 (-1) = true)
    (tb : tabB K fI C0 = true) :
    ∃ fd : FuncData, (∀ (s : Shared) (v : Value), BindsTo s fd ⟨[v], []⟩ [("_law_script", v)]) ∧ ∀ base : Heap, K.In base → base.Ns mainGlobals mg → FnG P w K mg base 6 fa fd ["_law_script"] (spLaw K) := by
  have e := hfa.symm.trans (PySem.W.mg_of X G a13)
  cases e
  have m_isinstance := PySem.W.mg_none_of X G z_isinstance
  have m_int := PySem.W.mg_none_of X G z_int
  have m_bool := PySem.W.mg_none_of X G z_bool
  have m_tuple := PySem.W.mg_none_of X G z_tuple
  have m_str := PySem.W.mg_none_of X G z_str
  have m_len := PySem.W.mg_none_of X G z_len
  have m_min := PySem.W.mg_none_of X G z_min
  have m_max := PySem.W.mg_none_of X G z_max
  have m_range := PySem.W.mg_none_of X G z_range
  have m_all := PySem.W.mg_none_of X G z_all
  unfold tabB at tb
  simp only [Bool.and_eq_true, beq_iff_eq] at tb
  obtain ⟨tb1, tb2, tb3, tb4⟩ := tb
  have Xt : Tx K mg C0 fI := ⟨class_of tb2 tb1, PySem.W.mg_of X G e0⟩
  obtain ⟨t30, hL⟩ := intK_of tL
  obtain ⟨t401, hM⟩ := intK_of tM
  have T0 : Txt0 mg := ⟨m_len, m_max⟩
  have Tt : Ta mg := ⟨m_isinstance, m_int, m_bool, m_tuple, m_str, m_len, t30, PySem.W.mg_of X G hL⟩
  have U : Tk mg := ⟨⟨t401, PySem.W.mg_of X G hM⟩, m_all⟩
  have M : Tm mg := ⟨m_min⟩
  have B : Tb mg := ⟨m_range⟩
  have St : Steps K w mg aS := ⟨PySem.W.mg_of X G gS, dS⟩
  have S2 : Steps2 K aS := ⟨sr, su, sl, sd⟩
  have FI := fun_mk (st := sIni) lI cI kI
  have bI := FI.binds (ps := ["self", "value"]) fun _ _ _ _ _ _ us hl => match us, hl with | [_, _], _ => rfl
  have F0 := fun_mk (st := (top 6)) l0 c0 k0
  have b0 := F0.binds (ps := ["value"]) fun _ _ _ _ _ _ us hl => match us, hl with | [_], _ => rfl
  have A0 : At K mg "is_integer" f0 _ ["value"] := ⟨PySem.W.mg_of X G a0, k0, b0⟩
  have F1 := fun_mk (st := (top 7)) l1 c1 k1
  have b1 := F1.binds (ps := ["value"]) fun _ _ _ _ _ _ us hl => match us, hl with | [_], _ => rfl
  have A1 : At K mg "is_point" f1 _ ["value"] := ⟨PySem.W.mg_of X G a1, k1, b1⟩
  have F2 := fun_mk (st := (top 10)) l2 c2 k2
  have b2 := F2.binds (ps := ["text"]) fun _ _ _ _ _ _ us hl => match us, hl with | [_], _ => rfl
  have A2 : At K mg "read_walk" f2 _ ["text"] := ⟨PySem.W.mg_of X G a2, k2, b2⟩
  have F3 := fun_mk (st := (top 11)) l3 c3 k3
  have b3 := F3.binds (ps := ["text"]) fun _ _ _ _ _ _ us hl => match us, hl with | [_], _ => rfl
  have A3 : At K mg "_read_point" f3 _ ["text"] := ⟨PySem.W.mg_of X G a3, k3, b3⟩
  have F4 := fun_mk (st := (top 12)) l4 c4 k4
  have b4 := F4.binds (ps := ["word"]) fun _ _ _ _ _ _ us hl => match us, hl with | [_], _ => rfl
  have A4 : At K mg "_is_coordinate" f4 _ ["word"] := ⟨PySem.W.mg_of X G a4, k4, b4⟩
  have F5 := fun_mk (st := sCell) l5 c5 k5
  have b5 := F5.binds (ps := ["_law_script", "_law_k"]) fun _ _ _ _ _ _ us hl => match us, hl with | [_, _], _ => rfl
  have A5 : At K mg "_law_cell_at" f5 _ ["_law_script", "_law_k"] := ⟨PySem.W.mg_of X G a5, k5, b5⟩
  have F6 := fun_mk (st := sBox) l6 c6 k6
  have b6 := F6.binds (ps := ["_law_cell"]) fun _ _ _ _ _ _ us hl => match us, hl with | [_], _ => rfl
  have A6 : At K mg "_law_box" f6 _ ["_law_cell"] := ⟨PySem.W.mg_of X G a6, k6, b6⟩
  have F7 := fun_mk (st := sTake) l7 c7 k7
  have b7 := F7.binds (ps := ["_law_box_here", "_law_many"]) fun _ _ _ _ _ _ us hl => match us, hl with | [_, _], _ => rfl
  have A7 : At K mg "_law_take" f7 _ ["_law_box_here", "_law_many"] := ⟨PySem.W.mg_of X G a7, k7, b7⟩
  have F8 := fun_mk (st := (top 17)) l8 c8 k8
  have b8 := F8.binds (ps := ["_law_point", "_law_sign"]) fun _ _ _ _ _ _ us hl => match us, hl with | [_, _], _ => rfl
  have A8 : At K mg "_law_step" f8 _ ["_law_point", "_law_sign"] := ⟨PySem.W.mg_of X G a8, k8, b8⟩
  have F9 := fun_mk (st := (top 18)) l9 c9 k9
  have b9 := F9.binds (ps := ["_law_word"]) fun _ _ _ _ _ _ us hl => match us, hl with | [_], _ => rfl
  have A9 : At K mg "_law_number" f9 _ ["_law_word"] := ⟨PySem.W.mg_of X G a9, k9, b9⟩
  have F10 := fun_mk (st := (top 19)) l10 c10 k10
  have b10 := F10.binds (ps := ["_law_text"]) fun _ _ _ _ _ _ us hl => match us, hl with | [_], _ => rfl
  have A10 : At K mg "_law_due" f10 _ ["_law_text"] := ⟨PySem.W.mg_of X G a10, k10, b10⟩
  have F11 := fun_mk (st := (top 20)) l11 c11 k11
  have b11 := F11.binds (ps := ["_law_value"]) fun _ _ _ _ _ _ us hl => match us, hl with | [_], _ => rfl
  have A11 : At K mg "_law_read" f11 _ ["_law_value"] := ⟨PySem.W.mg_of X G a11, k11, b11⟩
  have F12 := fun_mk (st := (top 21)) l12 c12 k12
  have b12 := F12.binds (ps := ["_law_box_here", "_law_text"]) fun _ _ _ _ _ _ us hl => match us, hl with | [_, _], _ => rfl
  have A12 : At K mg "_law_spoilt" f12 _ ["_law_box_here", "_law_text"] := ⟨PySem.W.mg_of X G a12, k12, b12⟩
  have F13 := fun_mk (st := (top 22)) l13 c13 k13
  refine ⟨PySem.W.fnOf "law" "law" (defArgs (top 22)) (defBody (top 22)) (defScope (top 22)) .none kV13 dc13 pm13 an13 cd13 ct13, fun s v => .of_eq rfl, fun base _ _ => ?_⟩
  have Gini := ok_ini (P := P) (w := w) (mg := mg) (base := base) FI
  have Gint := ok_isint (P := P) (w := w) (base := base) F0 Tt
  have Gpt := ok_ispoint F1 Tt Gint A0
  have Gco := ok_coord (P := P) (w := w) (base := base) F4 Tt
  have Grp := ok_readp F3 Tt Gco A4
  have Grw := ok_readw F2 Tt U Xt Gini bI St S2 Grp A3 Gpt A1
  have Gtk := ok_take (P := P) (w := w) (base := base) F7 Tt
  have Gst := ok_step (P := P) (w := w) (mg := mg) (base := base) F8
  have Gnu := ok_num (P := P) (w := w) (base := base) F9 Tt B
  have Gdu := ok_due F10 Tt Gst A8 Gnu A9
  have Glr := ok_lread F11 Xt tb3 Grw A2
  have Gsp := ok_spoilt F12 Tt Gtk A7
  exact ok_law F13 T0 Tt B M Xt Gini bI Xt.xc.cl tb4 (ok_cell F5 T0) A5 (ok_box F6 T0) A6 Gtk A7 Gsp A12 Glr A11 Gdu A10
end T1
open PySem PySem.W PyProof.Rows
set_option Elab.async false
set_option maxRecDepth 100000 in
set_option maxHeartbeats 0 in
theorem PySem.Challenge.cw_nevercrossed_k11_texts_of_walks_refused_holds : PySem.Challenge.rw_nevercrossed_k11_texts_of_walks_refused.Holds := by
  w_on; o_law; k_head; (case hw => w_witness2)
  k_fill
  refine Nv.walkG (l := PySem.Challenge.rw_nevercrossed_k11_texts_of_walks_refused) (n := 63) (k := 6) (x := "_law_script") (sp := T1.spLaw) rfl (by decide) rfl ⟨rfl, by decide, by decide⟩ (fun w h Y => PySem.W.kIn_of Y) ?F (fun K H a ns hl hS => ⟨a, ns, rfl, hS, hl, fun _ => rfl⟩)
  case F =>
    intro w mg fa h KX G hmg
    refine' T1.all_mk KX G hmg ?h_e0 ?h_e1 ?h_aI ?h_lI ?h_cI ?h_kI ?h_a0 ?h_l0 ?h_c0 ?h_k0 ?h_a1 ?h_l1 ?h_c1 ?h_k1 ?h_a2 ?h_l2 ?h_c2 ?h_k2 ?h_a3 ?h_l3 ?h_c3 ?h_k3 ?h_a4 ?h_l4 ?h_c4 ?h_k4 ?h_a5 ?h_l5 ?h_c5 ?h_k5 ?h_a6 ?h_l6 ?h_c6 ?h_k6 ?h_a7 ?h_l7 ?h_c7 ?h_k7 ?h_a8 ?h_l8 ?h_c8 ?h_k8 ?h_a9 ?h_l9 ?h_c9 ?h_k9 ?h_a10 ?h_l10 ?h_c10 ?h_k10 ?h_a11 ?h_l11 ?h_c11 ?h_k11 ?h_a12 ?h_l12 ?h_c12 ?h_k12 ?h_a13 ?h_l13 ?h_c13 ?h_k13 ?h_z_isinstance ?h_z_int ?h_z_bool ?h_z_tuple ?h_z_str ?h_z_len ?h_z_min ?h_z_max ?h_z_range ?h_z_all ?h_tL ?h_tM ?h_gS ?h_dS ?h_sr ?h_su ?h_sl ?h_sd ?h_tb
    (case h_e0 => k_is)
    (case h_e1 => k_is)
    (case h_aI => k_is)
    (case h_lI => k_is)
    (case h_cI => k_is)
    (case h_kI => k_is)
    (case h_a0 => k_is)
    (case h_l0 => k_is)
    (case h_c0 => k_is)
    (case h_k0 => k_is)
    (case h_a1 => k_is)
    (case h_l1 => k_is)
    (case h_c1 => k_is)
    (case h_k1 => k_is)
    (case h_a2 => k_is)
    (case h_l2 => k_is)
    (case h_c2 => k_is)
    (case h_k2 => k_is)
    (case h_a3 => k_is)
    (case h_l3 => k_is)
    (case h_c3 => k_is)
    (case h_k3 => k_is)
    (case h_a4 => k_is)
    (case h_l4 => k_is)
    (case h_c4 => k_is)
    (case h_k4 => k_is)
    (case h_a5 => k_is)
    (case h_l5 => k_is)
    (case h_c5 => k_is)
    (case h_k5 => k_is)
    (case h_a6 => k_is)
    (case h_l6 => k_is)
    (case h_c6 => k_is)
    (case h_k6 => k_is)
    (case h_a7 => k_is)
    (case h_l7 => k_is)
    (case h_c7 => k_is)
    (case h_k7 => k_is)
    (case h_a8 => k_is)
    (case h_l8 => k_is)
    (case h_c8 => k_is)
    (case h_k8 => k_is)
    (case h_a9 => k_is)
    (case h_l9 => k_is)
    (case h_c9 => k_is)
    (case h_k9 => k_is)
    (case h_a10 => k_is)
    (case h_l10 => k_is)
    (case h_c10 => k_is)
    (case h_k10 => k_is)
    (case h_a11 => k_is)
    (case h_l11 => k_is)
    (case h_c11 => k_is)
    (case h_k11 => k_is)
    (case h_a12 => k_is)
    (case h_l12 => k_is)
    (case h_c12 => k_is)
    (case h_k12 => k_is)
    (case h_a13 => k_is)
    (case h_l13 => k_is)
    (case h_c13 => k_is)
    (case h_k13 => k_is)
    (case h_z_isinstance => k_is)
    (case h_z_int => k_is)
    (case h_z_bool => k_is)
    (case h_z_tuple => k_is)
    (case h_z_str => k_is)
    (case h_z_len => k_is)
    (case h_z_min => k_is)
    (case h_z_max => k_is)
    (case h_z_range => k_is)
    (case h_z_all => k_is)
    (case h_tL => kernel_rfl)
    (case h_tM => kernel_rfl)
    (case h_gS => rfl)
    (case h_dS => first | kernel_rfl | rfl)
    (case h_sr => first | kernel_rfl | rfl)
    (case h_su => first | kernel_rfl | rfl)
    (case h_sl => first | kernel_rfl | rfl)
    (case h_sd => first | kernel_rfl | rfl)
    (case h_tb => kernel_rfl)
#print axioms PySem.Challenge.cw_nevercrossed_k11_texts_of_walks_refused_holds
