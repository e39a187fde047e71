import PyProof.Rows.All
import Wide.All
import OpenK.AllK
import Wide.FinOn
import HandS.ForMost
import HandS.ForExc
import HandS.IsInst
import HandS.CallLocal
import HandS.Wide
import HandS.WideBits
import HandS.Flow
import HandS.EndBits
import HandS.WrittenGet
import PyProof.ReprRoads
import HandS.More
import HandS.Walk
import PyProof.Rows.RegFStrParts
import KE.KSuper
import KE.KExcSuper
import HandS.ExcInit
import HandS.ExcIs
import HandS.ExcField
import KE.KExcIs
import HandS.ExcValue
import KE.KExcPX
import KE.RegKSuper
import PySem.Challenge.RW_cellbills_k01_errors_by_their_classes
set_option Elab.async false
set_option linter.all false
set_option maxRecDepth 100000
set_option maxHeartbeats 4000000
/-! What the layer lacks: defs that may ask for a text of a list (they want to know that no such asking is under way), // by any number that is not 0, great powers, calls by keywords alone, repr of data. -/
namespace Cb
open PySem PySem.Spec PyProof.Rows L2

/-! ### numbers -/
def DivAny (_ j : Int) : Prop := j ≠ 0 ∧ j.natAbs.log2 < 9000
def PowAny (i j : Int) : Prop := 0 ≤ j ∧ (Builtin.Int.intBits i : Int) * j ≤ 2 ^ 27
section
variable {X : Cx}
theorem op_fdivA : OpR X (binaryOp .FloorDiv) (rI DivAny fun i j => .int (i.fdiv j)) :=
  opI fun _ _ _ _ _ _ _ hd q => floordiv_int hd.1 q (.inl (PyProof.noPylong_of_log2 hd.2))
theorem op_powA : OpR X (binaryOp .Pow) (rI PowAny fun i j => .int (i ^ j.toNat)) :=
  opI fun _ _ _ _ _ _ _ hd q => pow_int hd.1 hd.2 q
end

/-! ### a text of data -/
@[irreducible] def rRepr (K : PySem.W.Frag) (u : Nat) : List V → Hp → VK → Prop := fun vs H Q =>
  ∃ (v : V) (d : PyData), vs = [v] ∧ Dp K H v d ∧ d.showable = true ∧ d.hasDict = false ∧ u + (d.depth + 1) < cLine ∧ ((∃ i, d = .int i) ∨ d.shown.length ≤ sizeLine) ∧ Q (.str d.shown) H
section
variable {X : Cx}
theorem call_repr (hg : X.A.guards = some []) : CallR X (.builtin "repr") (rRepr X.K X.A.units) := by
  intro pins s σ H vs us Q I rel h
  unfold rRepr at h
  obtain ⟨v, d, rfl, hd, hs, hn, hu, hz, q⟩ := h
  obtain ⟨u, rfl, ru⟩ := vals1 rel
  obtain ⟨as, rd⟩ := Dp.reads I d v u hd ru
  cases hd with
  | non =>
    cases ru
    exact PySem.P.repr_of_none ⟨.str "None", H, I.tok _, ⟨_, rfl⟩, q⟩
  | bl b =>
    cases ru
    exact PySem.P.repr_of_bool ⟨.str (PyData.shown (.bool b)), H, I.tok _, ⟨_, rfl⟩, q⟩
  | int i =>
    obtain ⟨t, rfl⟩ := ru
    have hi : i.natAbs.log2 < 1920 := of_decide_eq_true hs
    exact PySem.P.repr_of_int hi ⟨.str (PyData.shown (.int i)), H, I.tok _, ⟨_, rfl⟩, q⟩
  | str x =>
    obtain ⟨t, rfl⟩ := ru
    exact PySem.P.repr_of_str ⟨.str (PyData.shown (.str x)), H, I.tok _, ⟨_, rfl⟩, q⟩ (hz.resolve_left fun ⟨_, z⟩ => nomatch z)
  | lst e1 e2 =>
    cases ru
    exact repr_of_reads' rd hs (PyData.noDict_hsm hn) hg hu (fun _ _ z => z) (fun h' w tk hk => ⟨.str (PyData.shown _), H, I.kept hk, ⟨_, rfl⟩, q⟩) (hz.resolve_left fun ⟨_, z⟩ => nomatch z)
  | tup e1 e2 =>
    cases ru
    exact repr_of_reads' rd hs (PyData.noDict_hsm hn) hg hu (fun _ _ z => z) (fun h' w tk hk => ⟨.str (PyData.shown _), H, I.kept hk, ⟨_, rfl⟩, q⟩) (hz.resolve_left fun ⟨_, z⟩ => nomatch z)
end

/-! ### defs that want to know what is under way -/
structure FnG (P : Program) (w : World) (K : PySem.W.Frag) (mg : Str → Option Value) (base : Heap) (c : CXT) (k : Nat) (f : Addr) (fd : FuncData) (ps : List Str) (sp : Sp) : Prop where
  long : ∀ vs H Q E, sp vs H Q E → vs.length = ps.length
  goes : ∀ A : Around, A.guards = some [] → Room k A → ∀ (around : List Env) (s : Shared) (H : Hp) (given : Args) (us : List Value) (vs : List V) (Q : VK) (E : XK),
    Env0 P w K mg base A around s H → BindsTo s fd given (ps.zip us) → Vals vs us → sp vs H Q E →
    codeAny (model P w) A (.call (.ref f) given) (CR c around P w H s Q E) s
theorem FnG.up {P : Program} {w : World} {K : PySem.W.Frag} {mg : Str → Option Value} {base : Heap} {c : CXT} {j k : Nat} {f : Addr} {fd : FuncData} {ps : List Str} {sp : Sp}
    (G : FnG P w K mg base c j f fd ps sp) (le : j ≤ k) : FnG P w K mg base c k f fd ps sp :=
  { long := G.long, goes := fun A ga room => G.goes A ga (room.mono le) }
section
variable {X : Cx} {c : CXT} {k : Nat} {f : Addr} {fd : FuncData} {ps : List Str} {sp : Sp} {dvs : List V} {ds : List Value} {E : XK} {x : Str} {p pos : Pos} {e : Expr} {es : List Expr} {t : TA}
theorem runs_g {pins : List (Addr × Obj)} {σ : L2.St} {H : Hp} {s : Shared} {Q : VK} {us : List Value} {vs : List V} (G : FnG X.prog X.w X.K X.mg X.base c k f fd ps sp) (ga : X.A.guards = some []) (room : Room k X.A)
    (bd : Binds X.K fd ps ds) (hd : Vals dvs ds) (out : Passes c X E) (I : Inv X pins σ H s) (rel : Vals vs us) (pr : sp (vs ++ dvs) H Q E) :
    wpAny (model X.prog X.w) X.A (call (.ref f) us) (EP X pins σ Q) X.xe s := by
  have all := rel.append hd
  have many : (us ++ ds).length = ps.length := all.length ▸ G.long _ _ _ _ pr
  refine wpAny_call (codeAny_mono (G.goes X.A ga room X.stack s H ⟨us, []⟩ _ _ Q E I.env0 (bd s us I.kIn many) all pr) ?_)
  intro res s2 got
  match res, got with
  | .error err, got => exact out pins σ H s err s2 I got
  | .ok (.ret u), got => exact I.after got
theorem pe_callG (G : FnG X.prog X.w X.K X.mg X.base c k f fd ps sp) (ga : X.A.guards = some []) (room : Room k X.A) (gl : Gl X x) (mm : X.mg x = some (.ref f)) (kk : PySem.W.keepIn X.K (.ref f) = true)
    (bd : Binds X.K fd ps ds) (hd : Vals dvs ds) (out : Passes c X E) (ha : PA X (e :: es) t) (nd : (x == ("__debug__" : Str)) = false := by decide)
    (se : starEach (e :: es) X.env = (false, eval e X.env) :: starEach es X.env := by rfl) (pl : (backTo pos (starEach es X.env)).any (·.1) = false := by rfl) :
    PE X (.Call (.Name x p) (e :: es) [] pos) (tCall sp dvs E t) := by
  constructor
  intro pins s σ H Q I pr
  refine wpAny_Call_Name_kw (ld_glob I gl mm (PySem.W.callWith_K (h₀ := X.base) I.ok.mod.kin kk ?_ se pl) nd)
  refine thn (ha.run pos pins s σ H _ I pr) ?_
  rintro us s1 ⟨vs, H1, J, rel, pr1⟩
  exact ⟨J.kIn, runs_g G ga room bd hd out J rel pr1⟩
end
/-! f(k = v, ..) -/
section
variable {X : Cx} {c : CXT} {k : Nat} {f : Addr} {fd : FuncData} {ps ks : List Str} {sp : Sp} {E : XK} {x : Str} {p pos : Pos} {kws : List Keyword} {tk : TA} {g : List Value → List Value → List Value} {gV : List V → List V → List V}
theorem pe_callK0 (F : FnOk X.prog X.w X.K X.mg X.base c k f fd ps sp) (room : Room k X.A) (gl : Gl X x) (mm : X.mg x = some (.ref f)) (kk : PySem.W.keepIn X.K (.ref f) = true) (kb : KBinds X.K fd ps ks g gV) (out : Passes c X E) (hk : PK X kws tk)
    (named : (backToKw pos (keywordEach kws X.env)).all (·.1.isSome) = true := by rfl) (names : (backToKw pos (keywordEach kws X.env)).filterMap (·.1) = ks := by rfl) (nd : (x == ("__debug__" : Str)) = false := by decide)
    (pl : ((backTo pos (starEach [] X.env)).any (·.1) || (backToKw pos (keywordEach kws X.env)).any (·.1.isNone)) = false := by rfl) :
    PE X (.Call (.Name x p) [] kws pos) (tCallK sp gV E tNil tk) := by
  constructor
  intro pins s σ H Q I pr
  refine wpAny_Call_Name_kw (ld_glob I gl mm (PySem.W.callWith_KW0 (h₀ := X.base) I.ok.mod.kin kk named ?_ pl) nd)
  refine thn (hk.run pos pins s σ H _ I pr) ?_
  rintro ws s1 ⟨zs, H1, J, rel, pr1⟩
  refine ⟨J.kIn, ?_⟩
  rw [names]
  exact run_fnk (us := []) (vs := []) F room kb out J .nil rel pr1
end
/-- a def of the text that wants to know it -/
theorem fun_g {P : Program} {w : World} {K : PySem.W.Frag} {mg : Str → Option Value} {base : Heap} {c : CXT} {x qual : Str} {st : Stmt} {f : Addr} {fd : FuncData} {N ps : List Str} {k : Nat} {sp : Sp}
    (F : Fun K x qual st f fd) (S : FnScope N ps (defScope st)) (long : ∀ vs H Q E, sp vs H Q E → vs.length = ps.length)
    (body : ∀ (cdv : Value) (A : Around) (around : List Env) (s : Shared) (H : Hp) (vs : List V) (Q : VK) (E : XK), A.guards = some [] → Room k (A.deeper (envOfC qual (defScope st) s.heap.objs.size f cdv)) → sp vs H Q E →
      ∃ t, PSs (cxOf c P w K mg base N qual (defScope st) f cdv A around s H E) (defBody st) t ∧ t { nx := fun _ H' => Q .non H', rt := Q } (start N vs) H) :
    FnG P w K mg base c (k + 1) f fd ps sp := by
  obtain ⟨oc, od, kV, doc, pm, an, cdv, ct, osl, rfl, lk, hcd⟩ := F.ex
  refine ⟨long, ?_⟩
  intro A ga room around s H given us vs Q E z0 bd rel pr
  have KX : K.In s.heap := z0.mod.kin.keeps fun b o q => (z0.bs b o q).1
  have lim : s.heap.NoLimit := z0.mod.nolimit.keeps fun b o q => (z0.bs b o q).1
  have where_ : ∀ y ∈ ps.zip us, (defScope st).names.lookup y.1 = some .local ∨ ((defScope st).names.lookup y.1 = some .cell ∧ ((cellsFrom (s.heap.objs.size + 1) (defScope st).names []).lookup y.1).isSome = true) := by
    rintro ⟨n, v⟩ hy
    exact (S.par n (List.of_mem_zip hy).1).imp_right fun q => ⟨q, PySem.W.cellsFrom_some _ _ _ (.inl q)⟩
  refine codeAny_call_function room.depth (KX _ _ lk) rfl S.co S.gen rfl (PySem.W.codeRec_of KX hcd) (bd _ _ _ _ (wpAny_newFunctionEnv_cells S.kind where_ ?_))
  rintro env rfl s1 fresh
  refine ⟨lim.keeps fresh.toInCall.keep, codeAny_func ?_⟩
  obtain ⟨t, ht, hq⟩ := body cdv A around s H vs Q E ga (room.deeper _) pr
  have J : Inv (cxOf c P w K mg base N qual (defScope st) f cdv A around s H E) [] (start N vs) H s1 := inv_start S room.hd z0 (long _ _ _ _ pr) rel fresh
  refine wpAny_mono (ht.run [] s1 (start N vs) H _ J hq) ?_ (fun _ _ z => z)
  intro fl s2 got
  match fl, got with
  | .ret u, ⟨v, σ2, H2, L, rv, q⟩ => exact ⟨v, H2, L.os, L.bare, L.base, L.hok, rv, q⟩
  | .next, ⟨σ2, H2, L, q⟩ => exact ⟨V.non, H2, L.os, L.bare, L.base, L.hok, rfl, q⟩
  | .brk, ⟨_, _, _, q⟩ => exact q.elim
  | .cont, ⟨_, _, _, q⟩ => exact q.elim
end Cb
set_option Elab.async false
set_option linter.all false
set_option maxRecDepth 100000
set_option maxHeartbeats 4000000
namespace Cb
open PySem PySem.Spec PyProof.Rows L2
section
variable {P : Program} {w : World} {K : PySem.W.Frag} {mg mb : Str → Option Value} {k : Nat} {fa a : Addr} {fd : FuncData} {x : Str} {sp : Sp} {s : Shared} {vs : List Value} {ns : List Int}
/-- the law's def, called with the script, from an abstract heap that knows at most the script -/
theorem enters (H : Hp) (ob : Obj) (eo : ob = { cls := .type "list", data := .seq vs.toArray }) (H1 : ∀ b u, H b = some u → b = a ∧ u = .frz ob (.lst (ns.map V.int)) ∧ K.lookup a = none) (hS : SqL K H a (ns.map V.int)) (hok : HOk P w H s.heap)
    (KX : K.In s.heap) (g1 : s.heap.Ns mainGlobals mg) (g2 : s.heap.Ns builtinsNs mb) (g3 : ∀ x : Str, x ≠ "__name__" → mb x = bootBuiltins x) (g4 : s.heap.NoLimit) (g5 : s.gens = #[])
    (at_ : s.heap.get? a = some ob) (room : Room k callerA)
    (G : ∀ base : Heap, K.In base → base.Ns mainGlobals mg → FnG P w K mg base CX0 k fa fd [x] sp) (bd : ∀ (s : Shared) (u : Value), BindsTo s fd ⟨[u], []⟩ [(x, u)])
    (pr : sp [.ref a] H (fun v _ => v = .bl true) fun _ _ _ => False) :
    codeAny (model P w) callerA (.call (.ref fa) ⟨[.ref a], []⟩) (fun r s' => r = .ok (.ret (.bool true)) ∧ OldK s.heap s'.heap ∧ s'.os = s.os ∧ AllBare s'.gens) s := by
  have off : ∀ {b : Addr} {o : Obj}, s.heap.get? b = some o → o ≠ ob → H b = none := by
    intro b o e ne
    cases z : H b with
    | none => rfl
    | some u =>
      obtain ⟨rfl, _, _⟩ := H1 b u z
      exact absurd (Option.some.inj (e.symm.trans at_)) ne
  have offD : ∀ {b : Addr} {o : Obj} {es : Array DictEntry} {ep : Nat}, s.heap.get? b = some o → o.data = .dict es ep → H b = none := fun {b o es ep} e d => off e (by
    rintro rfl
    rw [eo] at d
    cases d)
  have hid : ∀ {b : Addr} {m : Str → Option Value}, s.heap.Ns b m → (hidT s.heap H).Ns b m := by
    rintro b m ⟨o, es, ep, e, d, r⟩
    exact ⟨o, es, ep, hidT_get e (offD e d), d, r⟩
  have KB : K.In (hidT s.heap H) := by
    intro b o e
    refine hidT_get (KX b o e) ?_
    cases z : H b with
    | none => rfl
    | some u =>
      obtain ⟨rfl, _, no⟩ := H1 b u z
      rw [no] at e
      cases e
  obtain ⟨mc, l1, l2⟩ := g4
  have z0 : Env0 P w K mg (hidT s.heap H) callerA [] s H :=
    { frames := rfl, mod := ⟨KB, hid g1, ⟨mb, hid g2, g3⟩, ⟨mc, hid l1, l2⟩⟩, bs := fun b o e => of_hidT e, bsz := Nat.le_of_eq (hidT_size _ _), funs := trivial
      frf := fun b hb => absurd (show b ∈ ([] : List Addr) from hb) List.not_mem_nil, hok := hok, bare := .of_eq g5 }
  refine codeAny_mono ((G _ KB (hid g1)).goes callerA rfl room [] s H ⟨[.ref a], []⟩ [.ref a] [.ref a] _ _ z0 (bd s (.ref a)) (.cons rfl .nil) pr) ?_
  intro res s2 got
  match res, got with
  | .ok (.ret u), got =>
    obtain ⟨v, H', os, bare, un, hok', rv, ev⟩ := got
    obtain rfl : v = V.bl true := ev
    obtain rfl : u = Value.bool true := rv
    refine ⟨rfl, OldK.of_keep ?_, os, bare⟩
    intro b o e
    cases z : H b with
    | none => exact un.keep b o e z (fun q => absurd (show b ∈ ([] : List Addr) from q) List.not_mem_nil) (by simp)
    | some u =>
      obtain ⟨rfl, rfl, _⟩ := H1 b u z
      have z2 := un.frzs b ob _ z
      obtain ⟨q1, _⟩ := hok b _ z
      obtain ⟨q2, _⟩ := hok' b _ z2
      exact (Option.some.inj (e.symm.trans q1)) ▸ q2
theorem enter (hobj : s.heap.get? a = some { cls := .type "list", data := .seq vs.toArray }) (hi : IntsAre vs ns) (hl : ns.length ≤ sizeLine)
    (KX : K.In s.heap) (g1 : s.heap.Ns mainGlobals mg) (g2 : s.heap.Ns builtinsNs mb) (g3 : ∀ x : Str, x ≠ "__name__" → mb x = bootBuiltins x) (g4 : s.heap.NoLimit) (g5 : s.gens = #[]) (room : Room k callerA)
    (G : ∀ base : Heap, K.In base → base.Ns mainGlobals mg → FnG P w K mg base CX0 k fa fd [x] sp) (bd : ∀ (s : Shared) (u : Value), BindsTo s fd ⟨[u], []⟩ [(x, u)])
    (pr : ∀ H : Hp, SqL K H a (ns.map V.int) → sp [.ref a] H (fun v _ => v = .bl true) fun _ _ _ => False) :
    codeAny (model P w) callerA (.call (.ref fa) ⟨[.ref a], []⟩) (fun r s' => r = .ok (.ret (.bool true)) ∧ OldK s.heap s'.heap ∧ s'.os = s.os ∧ AllBare s'.gens) s := by
  have rel := vals_ints hi
  cases hk : K.lookup a with
  | some o =>
    have same := Option.some.inj ((KX a o hk).symm.trans hobj)
    have hS : SqL K (fun _ => none) a (ns.map V.int) := .inr ⟨o, vs.toArray, _, hk, by rw [same], by rw [same], by rw [same], by rw [List.size_toArray, hi.length]; exact hl, rel⟩
    exact enters (fun _ => none) _ rfl (fun b u z => nomatch (show (none : Option HO) = some u from z)) hS (fun b u z => nomatch (show (none : Option HO) = some u from z)) KX g1 g2 g3 g4 g5 hobj room G bd (pr _ hS)
  | none =>
    let ob : Obj := { cls := .type "list", data := .seq vs.toArray }
    let H : Hp := fun b => if b = a then some (.frz ob (.lst (ns.map V.int))) else none
    have H1 : ∀ b u, H b = some u → b = a ∧ u = .frz ob (.lst (ns.map V.int)) ∧ K.lookup a = none := by
      intro b u z
      by_cases q : b = a
      · exact ⟨q, (Option.some.inj ((if_pos q).symm.trans z)).symm, hk⟩
      · exact nomatch ((if_neg q).symm.trans z : (none : Option HO) = some u)
    have hS : SqL K H a (ns.map V.int) := .inl (.inr ⟨ob, if_pos rfl⟩)
    refine enters H ob rfl H1 hS ?_ KX g1 g2 g3 g4 g5 hobj room G bd (pr _ hS)
    intro b u z
    obtain ⟨rfl, rfl, _⟩ := H1 b u z
    exact ⟨hobj, by rw [List.length_map]; exact hl, vs, _, rel, hobj⟩
end
/-- the goal that k_head leaves, for a law's def that wants to know what is under way; the script's ints with their bits -/
theorem walk_g {l : PySem.W.OpenLaw} {n k : Nat} {q : Program} {loose : List Str} {XP : (Str → Option Value) → Heap → Prop} {YP : World → Heap → Prop} {d : DefRec} {K : Params → PySem.W.Frag} {sp : PySem.W.Frag → Sp} {x : Str}
    (hn : l.most = some n) (small : n ≤ sizeLine) (plain : d.params.defaults = []) (room : Room k callerA) (hK : ∀ (w : World) (h : Heap), YP w h → (K w.params).In h)
    (G : ∀ (w : World) (mg : Str → Option Value) (fa : Addr) (h : Heap), (K w.params).In h → h.Ns mainGlobals mg → mg d.name = some (.ref fa) →
      ∃ fd : FuncData, (∀ (s : Shared) (u : Value), BindsTo s fd ⟨[u], []⟩ [(x, u)]) ∧ ∀ base : Heap, (K w.params).In base → base.Ns mainGlobals mg → FnG l.prog w (K w.params) mg base CX0 k fa fd [x] (sp (K w.params)))
    (pr : ∀ (K : PySem.W.Frag) (H : Hp) (a : Addr) (ns : List Int), ns.length ≤ n → (∀ i ∈ ns, Builtin.Int.intBits i ≤ 1048576) → SqL K H a (ns.map V.int) → sp K [.ref a] H (fun v _ => v = .bl true) fun _ _ _ => False) :
    PySem.W.WalkO q loose XP YP l.row.toRowW d [] (fun f vs => PySem.call f vs) := by
  refine Att.attach_callB hn plain ?_
  intro w s0 s mg mb fa o pm cd doc a vs ns A Y _ _ _ hmg hobj hints hlen hbits hg
  have KX := hK w _ Y
  obtain ⟨fd, bd, GG⟩ := G w mg fa _ KX A.T.g hmg
  exact enter hobj hints (Nat.le_trans hlen small) KX A.T.g A.T.b A.T.builtins A.T.nolimit hg room GG bd fun H hS => pr _ H a ns hlen hbits hS
end Cb
set_option Elab.async false
set_option linter.all false
set_option maxRecDepth 100000
set_option maxHeartbeats 4000000
namespace Cb
open PySem PySem.Spec PyProof.Rows L2
/-- a def stands under its name -/
def Has (K : PySem.W.Frag) (mg : Str → Option Value) (x : Str) (st : Stmt) (ps : List Str) : Prop :=
  ∃ (f : Addr) (fd : FuncData), Fun K x x st f fd ∧ mg x = some (.ref f) ∧ Binds K fd ps []
/-- it keeps a promise -/
def Says (P : Program) (w : World) (K : PySem.W.Frag) (mg : Str → Option Value) (base : Heap) (k : Nat) (x : Str) (ps : List Str) (sp : Sp) : Prop :=
  ∃ (f : Addr) (fd : FuncData), FnOk P w K mg base CX0 k f fd ps sp ∧ mg x = some (.ref f) ∧ PySem.W.keepIn K (.ref f) = true ∧ Binds K fd ps []
def SaysG (P : Program) (w : World) (K : PySem.W.Frag) (mg : Str → Option Value) (base : Heap) (k : Nat) (x : Str) (ps : List Str) (sp : Sp) : Prop :=
  ∃ (f : Addr) (fd : FuncData), FnG P w K mg base CX0 k f fd ps sp ∧ mg x = some (.ref f) ∧ PySem.W.keepIn K (.ref f) = true ∧ Binds K fd ps []
/-- also by keywords alone, in an order of their own: g puts them in the parameters' order -/
def kOnly (g : {α : Type} → List α → List α) : {α : Type} → List α → List α → List α
  | _, [], ws => g ws
  | _, _ :: _, _ => []
def SaysK (P : Program) (w : World) (K : PySem.W.Frag) (mg : Str → Option Value) (base : Heap) (k : Nat) (x : Str) (ps ks : List Str) (g : {α : Type} → List α → List α) (sp : Sp) : Prop :=
  ∃ (f : Addr) (fd : FuncData), FnOk P w K mg base CX0 k f fd ps sp ∧ mg x = some (.ref f) ∧ PySem.W.keepIn K (.ref f) = true ∧ KBinds K fd ps ks (kOnly g) (kOnly g)
def HasK (K : PySem.W.Frag) (mg : Str → Option Value) (x : Str) (st : Stmt) (ps ks : List Str) (g : {α : Type} → List α → List α) : Prop :=
  ∃ (f : Addr) (fd : FuncData), Fun K x x st f fd ∧ mg x = some (.ref f) ∧ KBinds K fd ps ks (kOnly g) (kOnly g)
/-- a def's body keeps a promise -/
abbrev Body (P : Program) (w : World) (K : PySem.W.Frag) (mg : Str → Option Value) (base : Heap) (k : Nat) (x : Str) (st : Stmt) (N : List Str) (sp : Sp) : Prop :=
  ∀ (f : Addr) (cdv : Value) (A : Around) (outer : List Env) (s : Shared) (H : Hp) (vs : List V) (Q : VK) (E : XK), Room k (A.deeper (envOfC x (defScope st) s.heap.objs.size f cdv)) → sp vs H Q E →
      ∃ t, PSs (cxOf CX0 P w K mg base N x (defScope st) f cdv A outer s H E).nox (defBody st) t ∧ t { nx := fun _ H' => Q .non H', rt := Q } (start N vs) H
section
variable {P : Program} {w : World} {K : PySem.W.Frag} {mg : Str → Option Value} {base : Heap} {k : Nat} {x : Str} {st : Stmt} {N ps : List Str} {sp : Sp}
theorem has {f : Addr} {oc : Value} {od an : Option Addr} {osl : Array (Option Value)} {kV doc pm cdv ct : Value} {h : Heap} (X : K.In h) (G : h.Ns mainGlobals mg) (a : PySem.W.nsIn K mainGlobals x = some (some (.ref f)))
    (l : K.lookup f = some ⟨oc, od, .func (PySem.W.fnOf x x (defArgs st) (defBody st) (defScope st) .none kV doc pm an cdv ct), osl⟩) (c : PySem.W.codeIn K cdv x = true) (kp : PySem.W.keepIn K (.ref f) = true)
    (b : ∀ (kV doc pm : Value) (an : Option Addr) (cdv ct : Value) (us : List Value), us.length = ps.length → bindArgs (PySem.W.fnOf x x (defArgs st) (defBody st) (defScope st) .none kV doc pm an cdv ct) ⟨us, []⟩ = pure (ps.zip us)) :
    Has K mg x st ps := ⟨f, _, fun_mk l c kp, PySem.W.mg_of X G a, (fun_mk l c kp).binds b⟩
theorem says (h : Has K mg x st ps) (S : FnScope N ps (defScope st)) (len : ∀ vs H Q E, sp vs H Q E → vs.length = ps.length)
    (body : ∀ (f : Addr) (cdv : Value) (A : Around) (outer : List Env) (s : Shared) (H : Hp) (vs : List V) (Q : VK) (E : XK), Room k (A.deeper (envOfC x (defScope st) s.heap.objs.size f cdv)) → sp vs H Q E →
      ∃ t, PSs (cxOf CX0 P w K mg base N x (defScope st) f cdv A outer s H E).nox (defBody st) t ∧ t { nx := fun _ H' => Q .non H', rt := Q } (start N vs) H) : Says P w K mg base (k + 1) x ps sp := by
  obtain ⟨f, fd, F, hm, b⟩ := h
  exact ⟨f, fd, F.ok S len fun cdv A outer s H vs Q E => body f cdv A outer s H vs Q E, hm, F.kp, b⟩
theorem saysK {ks : List Str} {g : {α : Type} → List α → List α} (h : HasK K mg x st ps ks g) (S : FnScope N ps (defScope st)) (len : ∀ vs H Q E, sp vs H Q E → vs.length = ps.length) (body : Body P w K mg base k x st N sp) : SaysK P w K mg base (k + 1) x ps ks g sp := by
  obtain ⟨f, fd, F, hm, b⟩ := h
  exact ⟨f, fd, F.ok S len fun cdv A outer s H vs Q E => body f cdv A outer s H vs Q E, hm, F.kp, b⟩
/-- one, and two turned about -/
theorem kb1 {fd : FuncData} {p : Str} (h : ∀ v : Value, bindArgs fd ⟨[], [(p, v)]⟩ = pure [(p, v)]) : KBinds K fd [p] [p] (kOnly fun l => l) (kOnly fun l => l) where
  to := fun s us ws _ hl => match us, ws, hl with
    | [], [v], _ => .of_eq (h v)
  rel := fun {vs us zs ws} r1 r2 => by
    cases r1 with
    | nil => exact r2
    | cons _ _ => exact .nil
theorem vals_rev {vs : List V} {us : List Value} (r : Vals vs us) : Vals vs.reverse us.reverse := by
  induction r with
  | nil => exact .nil
  | cons h _ ih =>
    rw [List.reverse_cons, List.reverse_cons]
    exact ih.append (.cons h .nil)
theorem kb2 {fd : FuncData} {p q : Str} (h : ∀ u v : Value, bindArgs fd ⟨[], [(q, u), (p, v)]⟩ = pure [(p, v), (q, u)]) : KBinds K fd [p, q] [q, p] (kOnly List.reverse) (kOnly List.reverse) where
  to := fun s us ws _ hl => match us, ws, hl with
    | [], [u, v], _ => .of_eq (h u v)
    | [], [], hl => nomatch hl
    | [], [_], hl => nomatch hl
    | [], _ :: _ :: _ :: _, hl => by
      have z : (List.reverse (_ :: _ :: _ :: _) : List Value).length = 2 := hl
      rw [List.length_reverse] at z
      simp at z
  rel := fun {vs us zs ws} r1 r2 => by
    cases r1 with
    | nil => exact vals_rev r2
    | cons _ _ => exact .nil
theorem hasK {ks : List Str} {gk : {α : Type} → List α → List α} {f : Addr} {oc : Value} {od an : Option Addr} {osl : Array (Option Value)} {kV doc pm cdv ct : Value} {h : Heap} (X : K.In h) (G : h.Ns mainGlobals mg) (a : PySem.W.nsIn K mainGlobals x = some (some (.ref f)))
    (l : K.lookup f = some ⟨oc, od, .func (PySem.W.fnOf x x (defArgs st) (defBody st) (defScope st) .none kV doc pm an cdv ct), osl⟩) (c : PySem.W.codeIn K cdv x = true) (kp : PySem.W.keepIn K (.ref f) = true)
    (b : KBinds K (PySem.W.fnOf x x (defArgs st) (defBody st) (defScope st) .none kV doc pm an cdv ct) ps ks (kOnly gk) (kOnly gk)) :
    HasK K mg x st ps ks gk := ⟨f, _, fun_mk l c kp, PySem.W.mg_of X G a, b⟩
theorem saysG (h : Has K mg x st ps) (S : FnScope N ps (defScope st)) (len : ∀ vs H Q E, sp vs H Q E → vs.length = ps.length)
    (body : ∀ (f : Addr) (cdv : Value) (A : Around) (outer : List Env) (s : Shared) (H : Hp) (vs : List V) (Q : VK) (E : XK), A.guards = some [] → Room k (A.deeper (envOfC x (defScope st) s.heap.objs.size f cdv)) → sp vs H Q E →
      ∃ t, PSs (cxOf CX0 P w K mg base N x (defScope st) f cdv A outer s H E).nox (defBody st) t ∧ t { nx := fun _ H' => Q .non H', rt := Q } (start N vs) H) : SaysG P w K mg base (k + 1) x ps sp := by
  obtain ⟨f, fd, F, hm, b⟩ := h
  exact ⟨f, fd, fun_g F S len fun cdv A outer s H vs Q E ga hr h => (body f cdv A outer s H vs Q E ga hr h).imp fun _ z => ⟨z.1.nox, z.2⟩, hm, F.kp, b⟩
theorem fnG {f : Addr} {fd : FuncData} (F : Fun K x x st f fd) (S : FnScope N ps (defScope st)) (len : ∀ vs H Q E, sp vs H Q E → vs.length = ps.length)
    (body : ∀ (f : Addr) (cdv : Value) (A : Around) (outer : List Env) (s : Shared) (H : Hp) (vs : List V) (Q : VK) (E : XK), A.guards = some [] → Room k (A.deeper (envOfC x (defScope st) s.heap.objs.size f cdv)) → sp vs H Q E →
      ∃ t, PSs (cxOf CX0 P w K mg base N x (defScope st) f cdv A outer s H E).nox (defBody st) t ∧ t { nx := fun _ H' => Q .non H', rt := Q } (start N vs) H) : FnG P w K mg base CX0 (k + 1) f fd ps sp :=
  fun_g F S len fun cdv A outer s H vs Q E ga hr h => (body f cdv A outer s H vs Q E ga hr h).imp fun _ z => ⟨z.1.nox, z.2⟩
theorem Says.imp {sp' : Sp} (c : Says P w K mg base k x ps sp) (h : ∀ vs H Q E, sp' vs H Q E → sp vs H Q E) : Says P w K mg base k x ps sp' := by
  obtain ⟨f, fd, F, hm, kp, b⟩ := c
  exact ⟨f, fd, F.imp h, hm, kp, b⟩
end
section
variable {X : Cx} {k j : Nat} {x : Str} {ps ks : List Str} {sp : Sp} {p pos : Pos} {e : Expr} {es : List Expr} {t tk : TA} {kws : List Keyword} {g : {α : Type} → List α → List α}
theorem pe_s (c : Says X.prog X.w X.K X.mg X.base k x ps sp) (hr : Room j X.A) (ha : PA X (e :: es) t) (le : k ≤ j := by decide) (gl : Gl X x := by rfl) (nd : (x == ("__debug__" : Str)) = false := by decide)
    (se : starEach (e :: es) X.env = (false, eval e X.env) :: starEach es X.env := by rfl) (pl : (backTo pos (starEach es X.env)).any (·.1) = false := by rfl) : PE X (.Call (.Name x p) (e :: es) [] pos) (tCall sp [] E0 t) := by
  obtain ⟨f, fd, F, hm, kp, b⟩ := c
  exact pe_call F (hr.mono le) gl hm kp b .nil pass0 ha nd se pl
theorem pe_g (c : SaysG X.prog X.w X.K X.mg X.base k x ps sp) (ga : X.A.guards = some []) (hr : Room j X.A) (ha : PA X (e :: es) t) (le : k ≤ j := by decide) (gl : Gl X x := by rfl) (nd : (x == ("__debug__" : Str)) = false := by decide)
    (se : starEach (e :: es) X.env = (false, eval e X.env) :: starEach es X.env := by rfl) (pl : (backTo pos (starEach es X.env)).any (·.1) = false := by rfl) : PE X (.Call (.Name x p) (e :: es) [] pos) (tCall sp [] E0 t) := by
  obtain ⟨f, fd, F, hm, kp, b⟩ := c
  exact pe_callG F ga (hr.mono le) gl hm kp b .nil pass0 ha nd se pl
theorem pe_k0 (c : SaysK X.prog X.w X.K X.mg X.base k x ps ks g sp) (hr : Room j X.A) (hk : PK X kws tk) (le : k ≤ j := by decide) (gl : Gl X x := by rfl)
    (named : (backToKw pos (keywordEach kws X.env)).all (·.1.isSome) = true := by rfl) (names : (backToKw pos (keywordEach kws X.env)).filterMap (·.1) = ks := by rfl) (nd : (x == ("__debug__" : Str)) = false := by decide)
    (pl : ((backTo pos (starEach [] X.env)).any (·.1) || (backToKw pos (keywordEach kws X.env)).any (·.1.isNone)) = false := by rfl) : PE X (.Call (.Name x p) [] kws pos) (tCallK sp (kOnly g) E0 tNil tk) := by
  obtain ⟨f, fd, F, hm, kp, b⟩ := c
  exact pe_callK0 F (hr.mono le) gl hm kp b pass0 hk named names nd pl
end
/-! ### heaps -/
theorem upd_self {H : Hp} {a : Addr} {o : HO} (h : H a = some o) : upd H a o = H := by
  funext b
  by_cases q : b = a
  · rw [q, upd_same, h]
  · rw [upd_ne q]
theorem same_new {H : Hp} {p : Addr} {o : HO} (h : H p = none) : Same H (upd H p o) := fun b u e => by
  rw [upd_ne (ne_of_none e h)]
  exact e
end Cb
set_option Elab.async false
set_option linter.all false
set_option maxRecDepth 100000
set_option maxHeartbeats 4000000
namespace Cb
open PySem PySem.Spec PyProof.Rows L2
def topS (i : Nat) : Stmt := PySem.Challenge.pw_cellbills_k01_errors_by_their_classes.main.body.getD i (.Pass ⟨0, 0, 0, 0⟩)
abbrev s_l_hash : Stmt := topS 20
theorem sc_l_hash : FnScope ["_law_seed", "_law_index", "_law_mixed"] ["_law_seed", "_law_index"] (defScope s_l_hash) := ⟨rfl, rfl, rfl, by decide +kernel, rfl, by decide +kernel, by decide +kernel⟩
abbrev s_l_random : Stmt := topS 21
theorem sc_l_random : FnScope ["_law_generator_here", "_law_bound", "_law_drawn", "_law_turn"] ["_law_generator_here", "_law_bound"] (defScope s_l_random) := ⟨rfl, rfl, rfl, by decide +kernel, rfl, by decide +kernel, by decide +kernel⟩
abbrev s_l_cell : Stmt := topS 22
theorem sc_l_cell : FnScope ["_law_script", "_law_index"] ["_law_script", "_law_index"] (defScope s_l_cell) := ⟨rfl, rfl, rfl, by decide +kernel, rfl, by decide +kernel, by decide +kernel⟩
abbrev s_l_generator : Stmt := topS 23
theorem sc_l_generator : FnScope ["_law_script", "_law_index", "_law_seed"] ["_law_script", "_law_index"] (defScope s_l_generator) := ⟨rfl, rfl, rfl, by decide +kernel, rfl, by decide +kernel, by decide +kernel⟩
structure TGen (K : PySem.W.Frag) (mg : Str → Option Value) : Prop where
  d_l_hash : Has K mg "_law_hash" s_l_hash ["_law_seed", "_law_index"]
  d_l_random : Has K mg "_law_random" s_l_random ["_law_generator_here", "_law_bound"]
  d_l_cell : Has K mg "_law_cell" s_l_cell ["_law_script", "_law_index"]
  d_l_generator : Has K mg "_law_generator" s_l_generator ["_law_script", "_law_index"]
  b_int : mg "int" = none
  b_range : mg "range" = none
  b_len : mg "len" = none
  b_sum : mg "sum" = none
  b_max : mg "max" = none
/-- a generator: three numbers -/
def gen (a s t : Int) : HO := .lst [.int a, .int s, .int t]
local macro_rules | `(tactic| walk_at "rd1") => `(tactic| first
  | with_reducible_and_instances refine ⟨_, rfl, ?_⟩
  | refine ⟨_, rfl, ?_⟩
  | refine ⟨_, _, rfl, rfl, ?_⟩
  | refine .inl ⟨_, rfl, ?_⟩
  | (refine ⟨by first | decide | omega | exact .inl (by decide) | exact .inr (by decide) | exact .inl (by omega) | exact .inr (by omega) | exact ⟨by decide, by decide⟩, ?_⟩))
local macro_rules | `(tactic| walk_at "rd") => `(tactic| repeat walk_at "rd1")
section
variable {P : Program} {w : World} {K : PySem.W.Frag} {mg : Str → Option Value} {base : Heap}
def sp_l_hash : Sp := fun vs H Q _ => ∃ s i : Int, vs = [.int s, .int i] ∧ 0 ≤ i ∧ i < 2 ^ 63 ∧ ∀ r : Int, Q (.int r) H
theorem mod_in {m b : Int} (h : 0 < b) : 0 ≤ m % b ∧ m % b < b := ⟨Int.emod_nonneg _ (by omega), Int.emod_lt_of_pos _ h⟩
theorem cut_first (ns : List Int) : cutV (ns.map V.int) none (some 1) = (ns.take 1).map V.int := by
  unfold cutV
  rw [show HT.sIx (ns.map V.int).length 0 none = 0 from HT.sIx_none _ _, show HT.sIx (ns.map V.int).length (ns.map V.int).length (some 1) = min 1 (ns.map V.int).length from HT.sIx_nat _ _ 1]
  cases ns with
  | nil => rfl
  | cons x r => simp
theorem c_l_hash (T : TGen K mg) : Says P w K mg base 1 "_law_hash" ["_law_seed", "_law_index"] sp_l_hash := by
  refine says T.d_l_hash sc_l_hash (fun vs H Q E h => ?_) (fun f cdv A outer s H vs Q E hr h => ?_)
  · obtain ⟨_, _, rfl, _⟩ := h; rfl
  · refine ⟨_, (pss_cons (ps_set (i := 2) sc_l_hash.nd rfl (.inl rfl) (pe_op op_mod (pe_callTy call_int1 (by rfl) T.b_int (by decide +kernel) (pa_cons (pe_op op_add (pe_op op_add (pe_op op_add (pe_op op_mul (pv 0) pe_int) (pe_op op_mul (pe_op op_mul pe_int (pv 1)) (pv 1))) (pe_op op_mul pe_int (pv 1))) pe_int) pa_nil)) pe_int))
      (pss_cons (ps_set (i := 2) sc_l_hash.nd rfl (.inl rfl) (pe_op op_mod (pe_callTy call_int1 (by rfl) T.b_int (by decide +kernel) (pa_cons (pe_op op_add (pe_op op_add (pe_op op_mul (pv 2) (pv 2)) (pe_op op_mul pe_int (pv 1))) pe_int) pa_nil)) pe_int))
      (pss_one (ps_ret (pe_op op_mod (pe_callTy call_int1 (by rfl) T.b_int (by decide +kernel) (pa_cons (pe_op op_mul (pv 2) pe_int) pa_nil)) pe_int))))), ?_⟩
    obtain ⟨s, i, rfl, h0, h1, q⟩ := h
    walk_at "rd"
    have hm := @mod_in (s * 1140671 + 27644437 * i * i + 131 * i + 19) 2147483629 (by decide)
    generalize (s * 1140671 + 27644437 * i * i + 131 * i + 19) % 2147483629 = m at hm ⊢
    walk_at "rd"
    exact q _

/-- a draw: some number below the bound; the generator goes on -/
def sp_l_random : Sp := fun vs H Q _ => ∃ (p : Addr) (a s t b : Int), vs = [.ref p, .int b] ∧ H p = some (gen a s t) ∧ 0 < b ∧ b.natAbs < 2 ^ 210 ∧ 0 ≤ t ∧ t < 2 ^ 62 ∧
  ∀ r a' t' : Int, 0 ≤ r → r < b → t ≤ t' → t' ≤ t + 8 → Q (.int r) (upd H p (gen a' s t'))
theorem c_l_random (T : TGen K mg) : Says P w K mg base 2 "_law_random" ["_law_generator_here", "_law_bound"] sp_l_random := by
  refine says T.d_l_random sc_l_random (fun vs H Q E h => ?_) (fun f cdv A outer s H vs Q E hr h => ?_)
  · obtain ⟨_, _, _, _, _, rfl, _⟩ := h; rfl
  · refine ⟨_, (pss_cons (ps_if (pt_cmpR op_gt (pe_ix ix_list (pv 0) pe_int (fun _ _ => rfl)) pe_int (nomark _))
        (pss_cons (ps_set (i := 2) sc_l_random.nd rfl (.inl rfl) (pe_op op_mod (pe_callTy call_int1 (by rfl) T.b_int (by decide +kernel) (pa_cons (pe_ix ix_list (pv 0) pe_int (fun _ _ => rfl)) pa_nil)) (pv 1)))
        (pss_cons (ps_asg (pe_op op_fdivA (pe_ix ix_list (pv 0) pe_int (fun _ _ => rfl)) (pv 1)) (pg_sub (pv 0) pe_int set_list))
        (pss_one (ps_ret (pv 2)))))
        pss_nil)
      (pss_cons (ps_set (i := 2) sc_l_random.nd rfl (.inl rfl) pe_int)
      (pss_cons (ps_for PassesOwn.never rfl (pi_range1 (by rfl) T.b_range (pa_cons (pe_op op_add pe_int (pe_op op_fdiv (pe_bits (pv 1)) pe_int)) pa_nil)) (pg_name (i := 3) sc_l_random.nd rfl (.inl rfl))
        (pss_cons (ps_asg (pe_op op_add (pe_ix ix_list (pv 0) pe_int (fun _ _ => rfl)) pe_int) (pg_sub (pv 0) pe_int set_list))
        (pss_one (ps_set (i := 2) sc_l_random.nd rfl (.inl rfl) (pe_op op_add (pe_op op_mul (pv 2) pe_int) (pe_s (c_l_hash T) hr (pa_cons (pe_ix ix_list (pv 0) pe_int (fun _ _ => rfl)) (pa_cons (pe_ix ix_list (pv 0) pe_int (fun _ _ => rfl)) pa_nil))))))))
      (pss_one (ps_ret (pe_op op_mod (pe_callTy call_int1 (by rfl) T.b_int (by decide +kernel) (pa_cons (pv 2) pa_nil)) (pv 1))))))), ?_⟩
    obtain ⟨p, a, s, t, b, rfl, hp, b0, b1, t0, t1, q⟩ := h
    have bl : Builtin.Int.intBits b ≤ 210 := PyProof.Rows.intBits_le b1
    refine ⟨_, rfl, _, _, _, _, rfl, rfl, SqL.of hp, rfl, _, _, rfl, rfl, _, rfl, ite2 (fun _ => ?_) (fun _ => ?_)⟩
    · refine ⟨_, rfl, _, _, _, _, rfl, rfl, SqL.of hp, rfl, .inl ⟨_, rfl, ?_⟩⟩
      refine ⟨_, rfl, _, _, rfl, rfl, b0, ?_⟩
      refine ⟨_, rfl, _, _, _, _, rfl, rfl, SqL.of hp, rfl, _, rfl, _, _, rfl, rfl, ⟨by omega, Nat.lt_of_lt_of_le (PySem.Flt.log2_lt_of (by decide) b1) (by decide)⟩, ?_⟩
      refine ⟨_, rfl, _, _, _, _, rfl, rfl, hp, rfl, ?_⟩
      refine ⟨_, rfl, ?_⟩
      exact q _ _ t (mod_in b0).1 (mod_in b0).2 (by omega) (by omega)
    · refine ⟨_, rfl, _, rfl, _, _, rfl, rfl, ⟨by decide, by decide⟩, _, _, rfl, rfl, _, rfl, ?_, ?_, ?_⟩
      · show -(2 ^ 62) ≤ 1 + ((Builtin.Int.intBits b : Nat) : Int) / 30
        omega
      · show 1 + ((Builtin.Int.intBits b : Nat) : Int) / 30 < 2 ^ 62
        omega
      · refine for_range (lo := 0) (fun i σ H' => ∃ (d t' : Int) (v : Option V), σ = [some (.ref p), some (.int b), some (.int d), v] ∧ t' = t + i ∧ H' = upd H p (gen a s t')) ⟨0, t, none, rfl, by omega, (upd_self hp).symm⟩ ?_ ?_
        · rintro i σ H' hi ⟨d, t', v, rfl, rfl, rfl⟩
          have hi8 : i < (1 + ((Builtin.Int.intBits b : Nat) : Int) / 30).toNat := hi
          refine ⟨_, rfl, _, _, _, _, rfl, rfl, SqL.of upd_same, rfl, _, _, rfl, rfl, ?_⟩
          refine ⟨_, rfl, _, _, _, _, rfl, rfl, upd_same, rfl, ?_⟩
          rw [upd_upd]
          refine ⟨_, rfl, _, _, rfl, rfl, .inr (by decide), ?_⟩
          refine ⟨_, rfl, _, _, _, _, rfl, rfl, SqL.of upd_same, rfl, _, rfl, _, _, _, _, rfl, rfl, SqL.of upd_same, rfl, ?_⟩
          refine ⟨_, _, rfl, by omega, by omega, fun r => ?_⟩
          refine ⟨_, _, rfl, rfl, ?_⟩
          exact ⟨_, t + i + 1, _, rfl, by omega, rfl⟩
        · rintro σ H' ⟨d, t', v, rfl, rfl, rfl⟩
          refine ⟨_, rfl, .inl ⟨_, rfl, ?_⟩⟩
          refine ⟨_, rfl, _, _, rfl, rfl, b0, ?_⟩
          have hn : ((1 + ((Builtin.Int.intBits b : Nat) : Int) / 30).toNat : Int) ≤ 8 := by omega
          exact q _ a _ (mod_in b0).1 (mod_in b0).2 (Int.le_add_of_nonneg_right (Int.natCast_nonneg _)) (Int.add_le_add_left hn t)
def sp_l_cell (K : PySem.W.Frag) : Sp := fun vs H Q _ => ∃ (p : Addr) (ns : List Int) (i : Int), vs = [.ref p, .int i] ∧ SqL K H p (ns.map V.int) ∧ 0 ≤ i ∧ ∀ (r : Int) (H' : Hp), Same H H' → Q (.int r) H'
theorem c_l_cell (T : TGen K mg) : Says P w K mg base 1 "_law_cell" ["_law_script", "_law_index"] (sp_l_cell K) := by
  refine says T.d_l_cell sc_l_cell (fun vs H Q E h => ?_) (fun f cdv A outer s H vs Q E hr h => ?_)
  · obtain ⟨_, _, _, rfl, _⟩ := h; rfl
  · refine ⟨_, (pss_cons (ps_if (pt_cmpR op_lt (pv 1) (pe_callB call_len_seq (by rfl) T.b_len (by decide +kernel) (pa_cons (pv 0) pa_nil)) (nomark _))
        (pss_one (ps_ret (pe_ix ix_list (pv 0) (pv 1) (fun _ _ => rfl))))
        pss_nil)
      (pss_one (ps_ret (pe_op op_mod (pe_callB (cr_sum rfl) (by rfl) T.b_sum (by decide +kernel) (pa_cons (pe_slice sl_list (pv 0) po_none (po_some pe_int)) pa_nil)) pe_int)))), ?_⟩
    obtain ⟨p, ns, i, rfl, hp, i0, q⟩ := h
    refine ⟨_, rfl, _, rfl, _, _, rfl, .inl hp, _, _, rfl, rfl, _, rfl, ite2 (fun lt => ?_) (fun _ => ?_)⟩
    · have lt2 : i < ((ns.map V.int).length : Int) := of_decide_eq_true lt
      rw [List.length_map] at lt2
      have e : atI (ns.map V.int) i = some (.int (ns[i.toNat]'(by omega))) := by
        have z := atI_nat (xs := ns.map V.int) (j := i.toNat) (v := .int (ns[i.toNat]'(by omega))) (by rw [List.getElem?_map, List.getElem?_eq_getElem (by omega)]; rfl)
        rwa [Int.toNat_of_nonneg i0] at z
      refine ⟨_, rfl, _, rfl, _, _, _, _, rfl, rfl, hp, e, ?_⟩
      exact q _ _ (Same.refl _)
    · refine ⟨_, rfl, 1, rfl, _, _, rfl, hp, fun l hl => ?_⟩
      refine ⟨_, (ns.take 1), rfl, ?_, ?_⟩
      · rw [← cut_first]
        exact SqL.of upd_same
      · refine ⟨_, _, rfl, rfl, (show (0 : Int) < 1000003 by decide), ?_⟩
        exact q _ _ (same_new hl)
/-- a new generator -/
def sp_l_generator (K : PySem.W.Frag) : Sp := fun vs H Q _ => ∃ (p : Addr) (ns : List Int) (i : Int), vs = [.ref p, .int i] ∧ SqL K H p (ns.map V.int) ∧ 0 ≤ i ∧ i < 1000 ∧
  ∀ (g : Addr) (a s : Int) (H' : Hp), H g = none → Same H H' → H' g = some (gen a s (1000 * i)) → Q (.ref g) H'
theorem c_l_generator (T : TGen K mg) : Says P w K mg base 2 "_law_generator" ["_law_script", "_law_index"] (sp_l_generator K) := by
  refine says T.d_l_generator sc_l_generator (fun vs H Q E h => ?_) (fun f cdv A outer s H vs Q E hr h => ?_)
  · obtain ⟨_, _, _, rfl, _⟩ := h; rfl
  · refine ⟨_, (pss_cons (ps_set (i := 2) sc_l_generator.nd rfl (.inl rfl) (pe_s (c_l_cell T) hr (pa_cons (pv 0) (pa_cons (pv 1) pa_nil))))
      (pss_one (ps_ret (pe_lst (pa_cons (pe_op op_mod (pe_callTy call_int1 (by rfl) T.b_int (by decide +kernel) (pa_cons (pe_callB (call_max2 rfl) (by rfl) T.b_max (by decide +kernel) (pa_cons (pe_op op_sub (pv 2) (pe_op op_powA pe_int pe_int)) (pa_cons pe_int pa_nil))) pa_nil)) (pe_op op_powA (pe_op op_powA pe_int pe_int) pe_int)) (pa_cons (pe_op op_mod (pe_callTy call_int1 (by rfl) T.b_int (by decide +kernel) (pa_cons (pv 2) pa_nil)) pe_int) (pa_cons (pe_op op_mul pe_int (pv 1)) pa_nil))))))), ?_⟩
    obtain ⟨p, ns, i, rfl, hp, i0, i1, q⟩ := h
    refine ⟨_, rfl, _, rfl, _, _, _, rfl, hp, i0, fun r H1 s1 => ?_⟩
    refine ⟨_, rfl, _, _, rfl, rfl, ⟨by decide, by decide +kernel⟩, _, _, rfl, rfl, ?_⟩
    refine ⟨_, _, rfl, .inl ⟨_, rfl, ?_⟩⟩
    refine ⟨_, _, rfl, rfl, ⟨by decide, by decide +kernel⟩, _, _, rfl, rfl, ⟨by decide, by decide +kernel⟩, ?_⟩
    refine ⟨_, _, rfl, rfl, (show (0 : Int) < ((10 ^ Int.toNat 60) ^ Int.toNat 10) by decide +kernel), ?_⟩
    refine ⟨_, rfl, .inl ⟨_, rfl, _, _, rfl, rfl, (show (0 : Int) < 2147483647 by decide), ?_⟩⟩
    refine ⟨_, rfl, _, _, rfl, rfl, .inl (by decide), ?_⟩
    refine ⟨(show 3 ≤ sizeLine by decide), fun g hg => ?_⟩
    exact q g _ _ _ (s1.free hg) (s1.trans (same_new hg)) upd_same
end
end Cb
set_option Elab.async false
set_option linter.all false
set_option maxRecDepth 100000
set_option maxHeartbeats 4000000
/-! Data that the calls themselves have made: what stands at an address is a list, a tuple or an empty dict of such. -/
namespace Cb
open PySem PySem.Spec PyProof.Rows L2
mutual
inductive DT (H : Hp) : V → PyData → Prop
  | non : DT H .non .none
  | bl (b : Bool) : DT H (.bl b) (.bool b)
  | int (i : Int) : DT H (.int i) (.int i)
  | str (z : Str) : DT H (.str z) (.str z)
  | lst {a : Addr} {xs : List V} {ds : List PyData} : H a = some (.lst xs) → DTs H xs ds → DT H (.ref a) (.list ds)
  | tup {a : Addr} {xs : List V} {ds : List PyData} : H a = some (.tup xs) → DTs H xs ds → DT H (.ref a) (.tuple ds)
  | dct {a : Addr} : H a = some (.dK []) → DT H (.ref a) (.dict [])
inductive DTs (H : Hp) : List V → List PyData → Prop
  | nil : DTs H [] []
  | cons {v : V} {vs : List V} {d : PyData} {ds : List PyData} : DT H v d → DTs H vs ds → DTs H (v :: vs) (d :: ds)
end
mutual
theorem DT.same {H H' : Hp} (s : Same H H') : ∀ (d : PyData) {v : V}, DT H v d → DT H' v d
  | .none, _, h => by cases h; exact .non
  | .bool _, _, h => by cases h; exact .bl _
  | .int _, _, h => by cases h; exact .int _
  | .str _, _, h => by cases h; exact .str _
  | .list ds, _, h => by
    cases h with
    | lst e r => exact .lst (s _ _ e) (DTs.same s ds r)
  | .tuple ds, _, h => by
    cases h with
    | tup e r => exact .tup (s _ _ e) (DTs.same s ds r)
  | .dict _, _, h => by
    cases h with
    | dct e => exact .dct (s _ _ e)
theorem DTs.same {H H' : Hp} (s : Same H H') : ∀ (ds : List PyData) {vs : List V}, DTs H vs ds → DTs H' vs ds
  | [], _, h => by cases h; exact .nil
  | d :: ds, _, h => by
    cases h with
    | cons a r => exact .cons (DT.same s d a) (DTs.same s ds r)
end
theorem DTs.length {H : Hp} : ∀ {ds : List PyData} {vs : List V}, DTs H vs ds → vs.length = ds.length
  | [], _, h => by cases h; rfl
  | d :: ds, _, h => by
    cases h with
    | cons a r =>
      rw [List.length_cons, List.length_cons, DTs.length r]
theorem DTs.get {H : Hp} : ∀ {ds : List PyData} {vs : List V} {j : Nat} {v : V} {d : PyData}, DTs H vs ds → vs[j]? = some v → ds[j]? = some d → DT H v d
  | [], _, j, v, d, h, e, f => by simp at f
  | d0 :: ds, _, 0, v, d, h, e, f => by
    cases h with
    | cons a r =>
      simp at e f
      rw [← e, ← f]
      exact a
  | d0 :: ds, _, j + 1, v, d, h, e, f => by
    cases h with
    | cons a r =>
      simp at e f
      exact r.get e f
/-! ### types -/
def tyN : PyData → String
  | .none => "NoneType"
  | .bool _ => "bool"
  | .int _ => "int"
  | .str _ => "str"
  | .list _ => "list"
  | .tuple _ => "tuple"
  | .dict _ => "dict"
def isS : PyData → Bool
  | .str _ => true
  | _ => false
def isL : PyData → Bool
  | .list _ => true
  | _ => false
def isTu : PyData → Bool
  | .tuple _ => true
  | _ => false
theorem DT.ty {K : PySem.W.Frag} {H : Hp} {v : V} : ∀ {d : PyData}, DT H v d → TyX K H v (.type (tyN d))
  | .none, h => by cases h; exact .base .non
  | .bool _, h => by cases h; exact .base (.bl _)
  | .int _, h => by cases h; exact .base (.int _)
  | .str _, h => by cases h; exact .base (.str _)
  | .list _, h => by
    cases h with
    | lst e _ => exact .base (.lst e)
  | .tuple _, h => by
    cases h with
    | tup e _ => exact .base (.tup e)
  | .dict _, h => by
    cases h with
    | dct e => exact .base (.dK e)
theorem kit_s : ∀ d : PyData, kitB (tyN d) "str" = some (isS d)
  | .none => by show kitB "NoneType" "str" = some false; decide +kernel
  | .bool _ => by show kitB "bool" "str" = some false; decide +kernel
  | .int _ => by show kitB "int" "str" = some false; decide +kernel
  | .str _ => by show kitB "str" "str" = some true; decide +kernel
  | .list _ => by show kitB "list" "str" = some false; decide +kernel
  | .tuple _ => by show kitB "tuple" "str" = some false; decide +kernel
  | .dict _ => by show kitB "dict" "str" = some false; decide +kernel
theorem kit_l : ∀ d : PyData, kitB (tyN d) "list" = some (isL d)
  | .none => by show kitB "NoneType" "list" = some false; decide +kernel
  | .bool _ => by show kitB "bool" "list" = some false; decide +kernel
  | .int _ => by show kitB "int" "list" = some false; decide +kernel
  | .str _ => by show kitB "str" "list" = some false; decide +kernel
  | .list _ => by show kitB "list" "list" = some true; decide +kernel
  | .tuple _ => by show kitB "tuple" "list" = some false; decide +kernel
  | .dict _ => by show kitB "dict" "list" = some false; decide +kernel
theorem kit_t : ∀ d : PyData, kitB (tyN d) "tuple" = some (isTu d)
  | .none => by show kitB "NoneType" "tuple" = some false; decide +kernel
  | .bool _ => by show kitB "bool" "tuple" = some false; decide +kernel
  | .int _ => by show kitB "int" "tuple" = some false; decide +kernel
  | .str _ => by show kitB "str" "tuple" = some false; decide +kernel
  | .list _ => by show kitB "list" "tuple" = some false; decide +kernel
  | .tuple _ => by show kitB "tuple" "tuple" = some true; decide +kernel
  | .dict _ => by show kitB "dict" "tuple" = some false; decide +kernel
/-- what a call of isinstance asks of data -/
theorem isi_s {K : PySem.W.Frag} {H : Hp} {v : V} {d : PyData} {Q : VK} (h : DT H v d) (q : Q (.bl (isS d)) H) : rIsi K [v, .ty "str"] H Q := ⟨_, _, _, _, _, rfl, .ty _, h.ty, kit_ty (kit_s d), q⟩
theorem isi_l {K : PySem.W.Frag} {H : Hp} {v : V} {d : PyData} {Q : VK} (h : DT H v d) (q : Q (.bl (isL d)) H) : rIsi K [v, .ty "list"] H Q := ⟨_, _, _, _, _, rfl, .ty _, h.ty, kit_ty (kit_l d), q⟩
theorem isi_t {K : PySem.W.Frag} {H : Hp} {v : V} {d : PyData} {Q : VK} (h : DT H v d) (q : Q (.bl (isTu d)) H) : rIsi K [v, .ty "tuple"] H Q := ⟨_, _, _, _, _, rfl, .ty _, h.ty, kit_ty (kit_t d), q⟩
/-! ### for the reckoning by ==: without dicts -/
mutual
def plain : PyData → Bool
  | .dict _ => false
  | .list ds => plains ds
  | .tuple ds => plains ds
  | _ => true
def plains : List PyData → Bool
  | [] => true
  | d :: ds => plain d && plains ds
end
mutual
theorem DT.dp {K : PySem.W.Frag} {H : Hp} : ∀ {d : PyData} {v : V}, plain d = true → DT H v d → Dp K H v d
  | .none, _, _, h => by cases h; exact .non
  | .bool _, _, _, h => by cases h; exact .bl _
  | .int _, _, _, h => by cases h; exact .int _
  | .str _, _, _, h => by cases h; exact .str _
  | .list ds, _, p, h => by
    cases h with
    | lst e r => exact .lst (SqL.of e) (DTs.dp (ds := ds) (by simpa [plain] using p) r)
  | .tuple ds, _, p, h => by
    cases h with
    | tup e r => exact .tup (SqT.of e) (DTs.dp (ds := ds) (by simpa [plain] using p) r)
  | .dict _, _, p, _ => by simp [plain] at p
theorem DTs.dp {K : PySem.W.Frag} {H : Hp} : ∀ {ds : List PyData} {vs : List V}, plains ds = true → DTs H vs ds → DpAll K H vs ds
  | [], _, _, h => by cases h; exact .nil
  | d :: ds, _, p, h => by
    cases h with
    | cons a r =>
      have p2 : plain d = true ∧ plains ds = true := by simpa [plains] using p
      exact .cons (DT.dp (d := d) p2.1 a) (DTs.dp (ds := ds) p2.2 r)
end
/-! ### lists made one by one, over any walk -/
theorem lc_mapW {J : It} {n : Nat} {G : Hp → Prop} {Y : Nat → Hp → V → Hp → Prop} {i : Nat} {te : TE} {σ : L2.St} {H1 : Hp} {D : Addr} {Qd : Hp → Prop} {ys : List V} (w : Walk J n G Y) (g0 : ∀ H, Same H1 H → G H) (y0 : ∀ j H x H', Y j H x H' → H' = H) (hD : H1 D = none) (len : ys.length = n) (small : n < 1000)
    (hs : ∀ (j : Nat) (x y : V) (H' : Hp) (Q : VK), Same H1 H' → Y j H' x H' → ys[j]? = some y → (∀ H'', Same H' H'' → Q y H'') → te ((wipe σ [i]).set i (some x)) H' Q)
    (hd : ∀ H', Same H1 H' → H' D = some (.lst ys) → Qd H') :
    ∃ W : Nat → Nat → Hp → Prop, (∃ m, W 0 m (upd H1 D (.lst []))) ∧ ∀ k m H, W k m H →
      (J.stop k H ∧ Qd H) ∨ (J.go k H ∧ ∃ Nx : Hp → Prop, (∀ H', Nx H' → ∃ m', m' < m ∧ W (k + 1) m' H') ∧ ∀ x H', J.yld k H x H' → gName i x (wipe σ [i]) H' fun σ2 H2 => wipe σ2 [i] = wipe σ [i] ∧ tYes σ2 H2 fun b H3 =>
        if b = true then te σ2 H3 fun y H4 => ∃ acc, H4 D = some (.lst acc) ∧ acc.length < sizeLine ∧ Nx (upd H4 D (.lst (acc ++ [y]))) else Nx H3) := by
  refine lc_it w (fun j H' => Same H1 H' ∧ H' D = some (.lst (ys.take j))) ⟨same_new hD, upd_same⟩ (fun j H' _ z => g0 H' z.1) ?_ ?_
  · rintro j x H H' hj ⟨s1, hd1⟩ y
    obtain rfl := y0 _ _ _ _ y
    have hy : ys[j]? = some ys[j] := List.getElem?_eq_getElem (by omega)
    refine ⟨?_, ?_⟩
    · show ((wipe σ [i]).set i (some x)).set i none = wipe σ [i]
      show ((σ.set i none).set i (some x)).set i none = σ.set i none
      rw [List.set_set, List.set_set]
    · show te ((wipe σ [i]).set i (some x)) H' _
      refine hs j x _ H' _ s1 y hy ?_
      intro H'' s2
      have e2 := s2 _ _ hd1
      refine ⟨_, e2, ?_, ?_, ?_⟩
      · rw [List.length_take]
        exact Nat.lt_of_le_of_lt (Nat.min_le_right _ _) (by rw [len]; exact small1000 (by omega))
      · intro b o e
        rw [upd_ne (ne_of_none e hD)]
        exact s2 _ _ (s1 _ _ e)
      · rw [upd_same, List.take_add_one, hy]
        rfl
  · rintro H' ⟨s1, hd1⟩
    rw [List.take_of_length_le (by omega)] at hd1
    exact hd H' s1 hd1
end Cb
set_option Elab.async false
set_option linter.all false
set_option maxRecDepth 100000
set_option maxHeartbeats 4000000
namespace Cb
open PySem PySem.Spec PyProof.Rows L2
/-! ### data that can be laid out and compared -/
mutual
def good : PyData → Bool
  | .none => true
  | .bool _ => true
  | .int _ => true
  | .str z => PyData.strOk z && decide (z.length ≤ 1000)
  | .list ds => decide (ds.length < 1000) && goods ds
  | .tuple ds => decide (ds.length < 1000) && goods ds
  | .dict _ => false
def goods : List PyData → Bool
  | [] => true
  | d :: ds => good d && goods ds
end
theorem goods_mem : ∀ {ds : List PyData} {d : PyData}, goods ds = true → d ∈ ds → good d = true
  | [], _, _, h => by cases h
  | e :: ds, d, g, h => by
    have g2 : good e = true ∧ goods ds = true := by simpa [goods] using g
    rcases List.mem_cons.mp h with rfl | h
    · exact g2.1
    · exact goods_mem g2.2 h
mutual
theorem good_can : ∀ d : PyData, good d = true → d.canLay0 = true
  | .none, _ => by simp [PyData.canLay0]
  | .bool _, _ => by simp [PyData.canLay0]
  | .int _, _ => by simp [PyData.canLay0]
  | .str z, h => by
    have h2 : PyData.strOk z = true ∧ z.length ≤ 1000 := by simpa [good] using h
    simpa [PyData.canLay0] using h2.1
  | .list ds, h => by
    have h2 : ds.length < 1000 ∧ goods ds = true := by simpa [good] using h
    simpa [PyData.canLay0] using goods_can ds h2.2
  | .tuple ds, h => by
    have h2 : ds.length < 1000 ∧ goods ds = true := by simpa [good] using h
    simpa [PyData.canLay0] using goods_can ds h2.2
  | .dict _, h => by simp [good] at h
theorem goods_can : ∀ ds : List PyData, goods ds = true → PyData.canLayAll0 ds = true
  | [], _ => by simp [PyData.canLayAll0]
  | d :: ds, h => by
    have g2 : good d = true ∧ goods ds = true := by simpa [goods] using h
    simp [PyData.canLayAll0, good_can d g2.1, goods_can ds g2.2]
end
mutual
theorem good_plain : ∀ d : PyData, good d = true → plain d = true
  | .none, _ => by simp [plain]
  | .bool _, _ => by simp [plain]
  | .int _, _ => by simp [plain]
  | .str z, h => by simp [plain]
  | .list ds, h => by
    have h2 : ds.length < 1000 ∧ goods ds = true := by simpa [good] using h
    simpa [plain] using goods_plain ds h2.2
  | .tuple ds, h => by
    have h2 : ds.length < 1000 ∧ goods ds = true := by simpa [good] using h
    simpa [plain] using goods_plain ds h2.2
  | .dict _, h => by simp [good] at h
theorem goods_plain : ∀ ds : List PyData, goods ds = true → plains ds = true
  | [], _ => by simp [plains]
  | d :: ds, h => by
    have g2 : good d = true ∧ goods ds = true := by simpa [goods] using h
    simp [plains, good_plain d g2.1, goods_plain ds g2.2]
end
/-- good, and not too deep -/
structure OKd (d : PyData) : Prop where
  good : good d = true
  dep : d.depth ≤ 60
theorem OKd.shaped {d : PyData} (h : OKd d) : SeqAt.shaped d = true := by
  unfold SeqAt.shaped
  rw [good_can d h.good, Bool.true_and]
  exact decide_eq_true (Nat.le_trans h.dep (by decide))
theorem OKd.mem_l {d : PyData} {ds : List PyData} (h : OKd (.list ds)) (m : d ∈ ds) : OKd d := by
  have g := h.good
  have g2 : ds.length < 1000 ∧ goods ds = true := by simpa [Cb.good] using g
  refine ⟨goods_mem g2.2 m, ?_⟩
  have := PyData.depth_le_depthAll ds d m
  have h2 := h.dep
  simp only [PyData.depth] at h2
  omega
theorem OKd.mem_t {d : PyData} {ds : List PyData} (h : OKd (.tuple ds)) (m : d ∈ ds) : OKd d := by
  have g := h.good
  have g2 : ds.length < 1000 ∧ goods ds = true := by simpa [Cb.good] using g
  refine ⟨goods_mem g2.2 m, ?_⟩
  have := PyData.depth_le_depthAll ds d m
  have h2 := h.dep
  simp only [PyData.depth] at h2
  omega
theorem OKd.len_l {ds : List PyData} (h : OKd (.list ds)) : ds.length < 1000 := by
  have g := h.good
  have g2 : ds.length < 1000 ∧ goods ds = true := by simpa [Cb.good] using g
  exact g2.1
theorem OKd.len_t {ds : List PyData} (h : OKd (.tuple ds)) : ds.length < 1000 := by
  have g := h.good
  have g2 : ds.length < 1000 ∧ goods ds = true := by simpa [Cb.good] using g
  exact g2.1
theorem OKd.len_s {z : Str} (h : OKd (.str z)) : z.length ≤ 1000 := by
  have g := h.good
  have g2 : PyData.strOk z = true ∧ z.length ≤ 1000 := by simpa [Cb.good] using g
  exact g2.2
theorem okd_str {z : Str} (h : PyData.strOk z = true) (l : z.length ≤ 1000) : OKd (.str z) := by
  refine ⟨?_, ?_⟩
  · simp [Cb.good, h, l]
  · simp [PyData.depth]
/-! ### == of an item and a text -/
theorem eqv_str (z y : Str) : PyData.eqv (.str z) (.str y) = decide (z = y) := by
  simp only [PyData.eqv]
  by_cases h : z = y <;> simp [h]
def isStr (y : Str) : PyData → Bool
  | .str z => decide (z = y)
  | _ => false
theorem eqv_isStr (y : Str) : ∀ d : PyData, PyData.eqv d (.str y) = isStr y d
  | .none => by simp [PyData.eqv, isStr]
  | .bool _ => by simp [PyData.eqv, isStr]
  | .int _ => by simp [PyData.eqv, isStr]
  | .str z => eqv_str z y
  | .list _ => by simp [PyData.eqv, isStr]
  | .tuple _ => by simp [PyData.eqv, isStr]
  | .dict _ => by simp [PyData.eqv, isStr]
/-! ### tests of what is known -/
theorem ifNot {p : Prop} [Decidable p] {A B : Prop} (hA : ¬ p → A) (hB : p → B) : if (!decide p) = true then A else B := by
  by_cases h : p
  · rw [decide_eq_true h]
    exact iteF (hB h)
  · rw [decide_eq_false h]
    exact iteT (hA h)
theorem ifB {b : Bool} {A B : Prop} (hA : b = true → A) (hB : b = false → B) : if b = true then A else B := by
  cases b with
  | true => exact iteT (hA rfl)
  | false => exact iteF (hB rfl)
theorem ifN {z y : Str} {A B : Prop} (h : ¬ z = y) (b : B) : if decide (V.str z = V.str y) = true then A else B := by
  rw [decide_eq_false (fun e => h (V.str.inj e))]
  exact iteF b
theorem ifY {z y : Str} {A B : Prop} (h : z = y) (a : A) : if decide (V.str z = V.str y) = true then A else B := by
  rw [decide_eq_true (congrArg V.str h)]
  exact iteT a
/-! ### signs of texts -/
def lowC (c : Nat) : Bool := decide (97 ≤ c) && decide (c ≤ 122)
def digC (c : Nat) : Bool := decide (48 ≤ c) && decide (c ≤ 57)
theorem lt1 (a c : Nat) : ([c] < [a]) ↔ c < a := by
  rw [List.cons_lt_cons_iff]
  simp
end Cb
set_option Elab.async false
set_option linter.all false
set_option maxRecDepth 100000
set_option maxHeartbeats 4000000
namespace Cb
open PySem PySem.Spec PyProof.Rows L2
/-! ### what is not looked at -/
def hid (S : List Addr) (H : Hp) : Hp := fun b => if b ∈ S then none else H b
def Keep (S : List Addr) (H H' : Hp) : Prop := ∀ b o, b ∉ S → H b = some o → H' b = some o
theorem hid_at {S : List Addr} {H : Hp} {b : Addr} {o : HO} (n : b ∉ S) (e : H b = some o) : hid S H b = some o := by
  unfold hid
  rw [if_neg n]
  exact e
theorem hid_out {S : List Addr} {H : Hp} {b : Addr} {o : HO} (e : hid S H b = some o) : b ∉ S ∧ H b = some o := by
  unfold hid at e
  split at e
  · cases e
  · exact ⟨by assumption, e⟩
theorem Keep.hid {S : List Addr} {H H' : Hp} (k : Keep S H H') : Same (hid S H) (hid S H') := fun b o e => by
  obtain ⟨n, e2⟩ := hid_out e
  exact hid_at n (k b o n e2)
theorem hid_same {S : List Addr} {H : Hp} : Same (hid S H) H := fun b o e => (hid_out e).2
theorem hid_mono {S S' : List Addr} {H : Hp} (h : ∀ b, b ∈ S → b ∈ S') : Same (hid S' H) (hid S H) := fun b o e => by
  obtain ⟨n, e2⟩ := hid_out e
  exact hid_at (fun z => n (h b z)) e2
theorem Same.keep {S : List Addr} {H H' : Hp} (s : Same H H') : Keep S H H' := fun b o _ e => s b o e
theorem Keep.trans {S : List Addr} {H H' H'' : Hp} (a : Keep S H H') (b : Keep S H' H'') : Keep S H H'' := fun c o n e => b c o n (a c o n e)
theorem Keep.refl {S : List Addr} {H : Hp} : Keep S H H := fun _ _ _ e => e
theorem Keep.mono {S S' : List Addr} {H H' : Hp} (k : Keep S H H') (h : ∀ b, b ∈ S → b ∈ S') : Keep S' H H' := fun b o n e => k b o (fun z => n (h b z)) e
/-- writing what is hidden -/
theorem keep_upd {S : List Addr} {H : Hp} {p : Addr} {o : HO} (h : p ∈ S) : Keep S H (upd H p o) := fun b u n e => by
  rw [upd_ne (show b ≠ p from fun z => n (by rw [z]; exact h))]
  exact e
theorem keep_new {S : List Addr} {H : Hp} {p : Addr} {o : HO} (h : H p = none) : Keep S H (upd H p o) := fun b u _ e => same_new h b u e
/-- what was new when S' was told may be hidden no more -/
theorem Keep.less {S S' : List Addr} {H H' : Hp} (k : Keep S' H H') (h : ∀ b, b ∈ S' → b ∉ S → H b = none) : Keep S H H' := fun b o n e => by
  by_cases z : b ∈ S'
  · rw [h b z n] at e
    cases e
  · exact k b o z e
/-! ### data of bounded size -/
def fit : List Nat → PyData → Bool
  | _, .none => true
  | _, .bool _ => true
  | _, .int i => decide (i = 0) || decide (i = 7)
  | _, .str z => PyData.strOk z && decide (z.length ≤ 40)
  | w :: ws, .list ds => decide (ds.length ≤ w) && ds.all (fit ws)
  | w :: ws, .tuple ds => decide (ds.length ≤ w) && ds.all (fit ws)
  | _, _ => false
def bulk : List Nat → Nat
  | [] => 40
  | w :: ws => 40 + w * (bulk ws + 1)
theorem bulk_40 : ∀ ws, 40 ≤ bulk ws
  | [] => Nat.le_refl _
  | w :: ws => by
    unfold bulk
    omega
theorem weightAll_le {n : Nat} : ∀ {ds : List PyData}, (∀ d ∈ ds, d.weight ≤ n) → PyData.weightAll ds ≤ ds.length * (n + 1)
  | [], _ => by simp [PyData.weightAll]
  | d :: ds, h => by
    have h1 := h d (List.mem_cons_self ..)
    have h2 := weightAll_le (ds := ds) fun e he => h e (List.mem_cons_of_mem _ he)
    simp only [PyData.weightAll, List.length_cons]
    rw [Nat.add_mul]
    omega
theorem canAll {ds : List PyData} (h : ∀ d ∈ ds, d.canLay0 = true) : PyData.canLayAll0 ds = true := by
  induction ds with
  | nil => simp [PyData.canLayAll0]
  | cons d ds ih => simp [PyData.canLayAll0, h d (List.mem_cons_self ..), ih fun e he => h e (List.mem_cons_of_mem _ he)]
theorem depthAll_le {n : Nat} {ds : List PyData} (h : ∀ d ∈ ds, d.depth ≤ n) : PyData.depthAll ds ≤ n := by
  induction ds with
  | nil => simp [PyData.depthAll]
  | cons d ds ih =>
    have h1 := h d (List.mem_cons_self ..)
    have h2 := ih fun e he => h e (List.mem_cons_of_mem _ he)
    simp only [PyData.depthAll]
    omega
/-- what fits is good, can be laid out, compared and shown -/
structure Fits (ws : List Nat) (d : PyData) : Prop where
  good : good d = true
  dep : d.depth ≤ ws.length
  wgt : d.weight ≤ bulk ws
  short : d.intsShort 13 = true
  shw : d.showable = true
  nod : d.hasDict = false
theorem goods_of : ∀ {ds : List PyData}, (∀ d ∈ ds, good d = true) → goods ds = true
  | [], _ => rfl
  | d :: ds, h => by
    simp only [goods, h d (List.mem_cons_self ..), goods_of (ds := ds) fun e he => h e (List.mem_cons_of_mem _ he), Bool.and_self]
theorem showAll_of : ∀ {ds : List PyData}, (∀ d ∈ ds, d.showable = true) → PyData.showableAll ds = true
  | [], _ => by simp [PyData.showableAll]
  | d :: ds, h => by
    simp only [PyData.showableAll, h d (List.mem_cons_self ..), showAll_of (ds := ds) fun e he => h e (List.mem_cons_of_mem _ he), Bool.and_self]
theorem shortAll_of : ∀ {ds : List PyData}, (∀ d ∈ ds, d.intsShort 13 = true) → PyData.intsShortAll 13 ds = true
  | [], _ => by simp [PyData.intsShortAll]
  | d :: ds, h => by
    simp only [PyData.intsShortAll, h d (List.mem_cons_self ..), shortAll_of (ds := ds) fun e he => h e (List.mem_cons_of_mem _ he), Bool.and_self]
theorem nodAll_of : ∀ {ds : List PyData}, (∀ d ∈ ds, d.hasDict = false) → PyData.hasDictAll ds = false
  | [], _ => by simp [PyData.hasDictAll]
  | d :: ds, h => by
    simp only [PyData.hasDictAll, h d (List.mem_cons_self ..), nodAll_of (ds := ds) fun e he => h e (List.mem_cons_of_mem _ he), Bool.or_self]
theorem log_100 {i : Int} (h : i.natAbs < 100) : i.natAbs.log2 < 1920 := Nat.lt_of_lt_of_le (PySem.Flt.log2_lt_of (by decide) (show i.natAbs < 2 ^ 7 by omega)) (by decide)
theorem fits_of : ∀ (ws : List Nat), (∀ w ∈ ws, w < 1000) → ∀ d : PyData, fit ws d = true → Fits ws d
  | ws, _, .none, _ => ⟨rfl, by simp [PyData.depth], by simp [PyData.weight], by simp [PyData.intsShort], by simp [PyData.showable], by simp [PyData.hasDict]⟩
  | ws, _, .bool _, _ => ⟨rfl, by simp [PyData.depth], by simp [PyData.weight], by simp [PyData.intsShort], by simp [PyData.showable], by simp [PyData.hasDict]⟩
  | ws, _, .int i, h => by
    have h2 : i = 0 ∨ i = 7 := by cases ws <;> simpa [fit] using h
    have h40 := bulk_40 ws
    rcases h2 with rfl | rfl
    · exact ⟨rfl, by simp [PyData.depth], by simp [PyData.weight], by decide +kernel, by decide +kernel, by simp [PyData.hasDict]⟩
    · exact ⟨rfl, by simp [PyData.depth], Nat.le_trans (by decide +kernel) h40, by decide +kernel, by decide +kernel, by simp [PyData.hasDict]⟩
  | ws, _, .str z, h => by
    have h2 : PyData.strOk z = true ∧ z.length ≤ 40 := by cases ws <;> simpa [fit] using h
    have h40 := bulk_40 ws
    refine ⟨?_, by simp [PyData.depth], ?_, by simp [PyData.intsShort], by simp [PyData.showable], by simp [PyData.hasDict]⟩
    · simp only [Cb.good, h2.1, Bool.true_and]
      exact decide_eq_true (Nat.le_trans h2.2 (by decide))
    · simp only [PyData.weight]
      exact Nat.le_trans h2.2 h40
  | [], _, .list _, h => by simp [fit] at h
  | [], _, .tuple _, h => by simp [fit] at h
  | [], _, .dict _, h => by simp [fit] at h
  | _ :: _, _, .dict _, h => by simp [fit] at h
  | w :: ws, hw, .list ds, h => by
    have h2 : ds.length ≤ w ∧ ds.all (fit ws) = true := by simpa only [fit, Bool.and_eq_true, decide_eq_true_eq] using h
    have all : ∀ d ∈ ds, Fits ws d := fun d hd => fits_of ws (fun x hx => hw x (List.mem_cons_of_mem _ hx)) d (List.all_eq_true.mp h2.2 d hd)
    have w1 := hw w (List.mem_cons_self ..)
    refine ⟨?_, ?_, ?_, ?_, ?_, ?_⟩
    · simp only [Cb.good, goods_of fun d hd => (all d hd).good, Bool.and_true]
      exact decide_eq_true (by omega)
    · have := depthAll_le fun d hd => (all d hd).dep
      simp only [PyData.depth, List.length_cons]
      omega
    · have h3 := weightAll_le fun d hd => (all d hd).wgt
      have h4 : ds.length * (bulk ws + 1) ≤ w * (bulk ws + 1) := Nat.mul_le_mul_right _ h2.1
      simp only [PyData.weight, bulk]
      omega
    · simp only [PyData.intsShort]
      exact shortAll_of fun d hd => (all d hd).short
    · simp only [PyData.showable]
      exact showAll_of fun d hd => (all d hd).shw
    · simp only [PyData.hasDict]
      exact nodAll_of fun d hd => (all d hd).nod
  | w :: ws, hw, .tuple ds, h => by
    have h2 : ds.length ≤ w ∧ ds.all (fit ws) = true := by simpa only [fit, Bool.and_eq_true, decide_eq_true_eq] using h
    have all : ∀ d ∈ ds, Fits ws d := fun d hd => fits_of ws (fun x hx => hw x (List.mem_cons_of_mem _ hx)) d (List.all_eq_true.mp h2.2 d hd)
    have w1 := hw w (List.mem_cons_self ..)
    refine ⟨?_, ?_, ?_, ?_, ?_, ?_⟩
    · simp only [Cb.good, goods_of fun d hd => (all d hd).good, Bool.and_true]
      exact decide_eq_true (by omega)
    · have := depthAll_le fun d hd => (all d hd).dep
      simp only [PyData.depth, List.length_cons]
      omega
    · have h3 := weightAll_le fun d hd => (all d hd).wgt
      have h4 : ds.length * (bulk ws + 1) ≤ w * (bulk ws + 1) := Nat.mul_le_mul_right _ h2.1
      simp only [PyData.weight, bulk]
      omega
    · simp only [PyData.intsShort]
      exact shortAll_of fun d hd => (all d hd).short
    · simp only [PyData.showable]
      exact showAll_of fun d hd => (all d hd).shw
    · simp only [PyData.hasDict]
      exact nodAll_of fun d hd => (all d hd).nod
theorem Fits.ok {ws : List Nat} {d : PyData} (f : Fits ws d) (l : ws.length ≤ 60) : OKd d := ⟨f.good, Nat.le_trans f.dep l⟩
theorem Fits.len {ws : List Nat} {d : PyData} (f : Fits ws d) (l : ws.length ≤ 60) (b : bulk ws ≤ 2 ^ 20) : d.shown.length ≤ sizeLine := by
  refine Nat.le_trans (PyProof.Rows.shown_le13 ?_ f.short) (by decide)
  simp only [PyData.layable0, good_can d f.good, Bool.true_and, Bool.and_eq_true, decide_eq_true_eq]
  exact ⟨Nat.le_trans f.dep (by omega), Nat.le_trans f.wgt b⟩
/-- its text, asked by call_repr -/
theorem r_fits {K : PySem.W.Frag} {u : Nat} {H : Hp} {Q : VK} {v : V} {d : PyData} {ws : List Nat} (h : DT H v d) (f : Fits ws d) (l : ws.length ≤ 60) (b : bulk ws ≤ 2 ^ 20) (hu : u + 200 < cLine) (q : Q (.str (PyData.shown d)) H) : rRepr K u [v] H Q := by
  unfold rRepr
  exact ⟨v, d, rfl, h.dp (good_plain d f.good), f.shw, f.nod, by have := f.dep; omega, .inr (f.len l b), q⟩
end Cb
set_option Elab.async false
set_option linter.all false
set_option maxRecDepth 100000
set_option maxHeartbeats 4000000
/-! Exceptions of a class of the program whose __init__ says super().__init__(), its base class being the program's own too. -/
namespace ExS
open PySem PySem.W PySem.Calls PyProof.Rows
/-- what does not change: the written part, the module's names, the built-in ones -/
structure Bs (K : Frag) (mg mb : Str → Option Value) (h : Heap) : Prop where
  kin : K.In h
  glob : h.Ns mainGlobals mg
  blt : h.Ns builtinsNs mb
  sup : mg "super" = none
  bsup : mb "super" = some (.type "super")
  nol : h.NoLimit
theorem Bs.keeps {K : Frag} {mg mb : Str → Option Value} {h h' : Heap} (b : Bs K mg mb h) (k : ∀ b o, h.get? b = some o → h'.get? b = some o) : Bs K mg mb h' :=
  ⟨b.kin.keeps k, b.glob.keeps k, b.blt.keeps k, b.sup, b.bsup, b.nol.keeps k⟩
/-- a def of a class D, with its cell of __class__ -/
structure SupFn (K : Frag) (prog : Program) (f D cda cc : Addr) (qual : Str) (params : Arguments) (body : List Stmt) (scope : Scope) (fd : FuncData) : Prop where
  ex : ∃ (name : Str) (dV kV doc pm ct : Value) (od an : Option Addr) (osl : Array (Option Value)), fd = ksFn name qual params body scope dV kV doc pm an (.ref cda) ct cc ∧ K.lookup f = some ⟨.type "function", od, .func fd, osl⟩
  code : codeIn K (.ref cda) qual = true
  at_ : ∃ (c : Value) (cd : Option Addr) (vs : Array Value) (cs : Array (Option Value)) (file : Str) (tf : Tok), K.lookup cda = some ⟨c, cd, .fields vs, cs⟩ ∧ vs[2]? = some (.str file tf) ∧ ((prog.main.file : Str) == file) = true
  cell : ∃ (cl : Value) (cld : Option Addr) (csl : Array (Option Value)), K.lookup cc = some ⟨cl, cld, .cell (some (.ref D)), csl⟩
  cls : ∃ cd : ClassData, clsIn K D = some cd
/-- the program's file knows no name super -/
def NoSup (prog : Program) : Prop := (prog.main.scope.names.lookup ("super" : Str)).isSome = false
section
variable {prog : Program} {w : World} {A : Around} {E : Value → Shared → Prop} {h : Heap} {g : Array GenState} {d : Drawn} {t : Nat} {os : OsState} {K : Frag} {mg mb : Str → Option Value} {f D C x L cda cc : Addr} {qual : Str} {params : Arguments} {body body' : List Stmt} {scope : Scope} {fd : FuncData} {ox : Obj} {odx : Option Obj} {m : Str → Option Value} {ar : Arg} {attr : Str} {p0 p1 : Pos} {whole : Sem Value}
theorem clsAt {cd : ClassData} (X : K.In h) (hD : clsIn K D = some cd) : ∃ oD, h.get? D = some oD ∧ oD.data = .cls cd := by
  unfold clsIn at hD
  split at hD
  · rename_i c d cd' sl ho
    cases hD
    exact ⟨_, X _ _ ho, rfl⟩
  · cases hD
theorem sup_base {Q : Value → Shared → Prop} (B : Bs K mg mb h) (S : SupFn K prog f D cda cc qual params body scope fd) (ns : NoSup prog) (hn : h.Ns L m) (hp : (params.posonlyargs ++ params.args).head? = some ar) (hv : m ar.arg = some (.ref x)) (I : InstAt h x ox C odx)
    (hsub : mroIn K C (.ref D) = some true) (hat : (attr == ("__class__" : Str)) = false) (hks : scope.names.lookup ("super" : Str) = some .globalImplicit) (hkc : scope.names.lookup ("__class__" : Str) = some .free) (hka : scope.names.lookup ar.arg = some .local) (hk : scope.kind = .function)
    (q : ∀ h', h'.get? h.objs.size = some (ks_superObj D x C) → (∀ y o, h.get? y = some o → h'.get? y = some o) → Q (.ref h.objs.size) ⟨h', g, d, t, os⟩) :
    _root_.PySem.wpAt (model prog w) A (.func body' (ksEnv qual scope L f (.ref cda) cc)) (attributeBase (.Call (.Name "super" p0) [] [] p1) attr (ksEnv qual scope L f (.ref cda) cc) whole) Q E ⟨h, g, d, t, os⟩ := by
  obtain ⟨name, dV, kV, doc, pm, ct, od, an, osl, rfl, lf⟩ := S.ex
  obtain ⟨c, cd, vs, cs, file, tf, lc, hvs, hfile⟩ := S.at_
  obtain ⟨cl, cld, csl, lcell⟩ := S.cell
  obtain ⟨cdD, hD⟩ := S.cls
  have X := B.kin
  obtain ⟨oD, hD1, hD2⟩ := clsAt X hD
  refine ks_wpAt_super_base (env := ksEnv qual scope L f (.ref cda) cc) hks hkc hat rfl (X _ _ lf) rfl hp rfl (X _ _ lc) rfl hvs hfile ns ?_
  refine ks_loadName_global hk hks (loadGlobal_builtin (env := ksEnv qual scope L f (.ref cda) cc) B.glob B.sup B.blt B.bsup ⟨rfl, ?_⟩)
  refine wpAny_loadName_free hk hkc rfl ⟨_, X _ _ lcell, rfl⟩ ?_
  refine wpAny_loadName_local hk hka hn hv ?_
  refine ks_wpAny_isType_cls hD1 hD2 ⟨rfl, ?_⟩
  refine ks_wpAny_call_super hD1 hD2 I.at_ I.cls (fun c e => ?_) (looks_mroIn X hsub) (fun h' e k => q h' e k)
  have := I.no
  unfold notCls at this
  rw [e] at this
  exact Bool.noConfusion this
/-! ### super().__init__() that finds ValueError's -/
theorem mw_call {u t0 : Addr} {dv : Option Addr} {c2 : Value} {nm qn : Str} {N : Addr} {bs bm bmB : List Value} {hdct : Bool} {sn : List Str} {sub : List Value} {ab : Bool} {col : Option Bool} {dd : Option Addr} {k0 k1 k2 k3 k5 : Option Value} {Bn newId initId : String} {Q : Value → Shared → Prop}
    (FB : ExcBaseFacts Bn newId initId bmB) (hC : h.get? C = some (excClassObj nm qn C N bs bm hdct sn sub ab col dd k0 k1 k2 k3 k5 newId)) (he : h.get? x = some (excRec (.ref C) t0 dv c2 .none (.bool false))) (hu : h.get? u = some (kxs_mw initId x))
    (q : ∀ h', (∀ b o, b ≠ x → h.get? b = some o → h'.get? b = some o) → h'.get? x = some (excRec (.ref C) h.objs.size dv c2 .none (.bool false)) → Q .none ⟨h', g, d, t, os⟩) :
    wpAny (model prog w) A (call (.ref u) []) Q E ⟨h, g, d, t, os⟩ := by
  refine wpAny_call (codeAny_of_tree ?_)
  show wpAny _ A.in1 (callAny (.ref u) ⟨[], []⟩) _ _ _
  simp only [callAny]
  refine wpAny_bind (wpAny_load hu ?_)
  simp only [kxs_mw, show (Value.type "method-wrapper" == Value.type "method" || Value.type "method-wrapper" == Value.type "builtin_function_or_method" || Value.type "method-wrapper" == Value.type "method-wrapper") = true by decide, if_true]
  refine KFB.if_so (by decide) ?_
  refine wpAny_bind (check_bound_init FB.toExcCallFacts hC he rfl ?_)
  refine wpAny_bind (wpAny_pure (wpAny_pure ?_))
  refine ⟨plainId_quiet FB.init.plain _, codeAny_builtin FB.initEntry ?_⟩
  exact exc_init_tree (cls := .ref C) (t0 := t0) (dv := dv) (c2 := c2) (c3 := .none) (b4 := .bool false) he (by decide) fun h' k e' _ => q h' k e'
end
end ExS
set_option Elab.async false
set_option linter.all false
set_option maxRecDepth 100000
set_option maxHeartbeats 4000000
namespace ExS
open PySem PySem.W PySem.Calls PyProof.Rows
abbrev bSup (p0 p1 p2 p3 p4 : Pos) : Stmt := .Expr (.Call (.Attribute (.Call (.Name "super" p0) [] [] p1) "__init__" p2) [] [] p3) p4
abbrev bVal (p5 p6 p7 p8 : Pos) : Stmt := .Assign [.Attribute (.Name "self" p5) "value" p6] (.Name "value" p7) p8
abbrev exN (C t : Addr) : Obj := excRec (.ref C) t none .none .none (.bool false)
abbrev exD (C t dx : Addr) : Obj := excRec (.ref C) t (some dx) .none .none (.bool false)
abbrev scB : Scope := { kind := .function, names := [("self", .local), ("__class__", .free), ("super", .globalImplicit)], isGenerator := false, isCoroutine := false, more := [] }
abbrev scI : Scope := { kind := .function, names := [("self", .local), ("value", .local), ("__class__", .free), ("super", .globalImplicit)], isGenerator := false, isCoroutine := false, more := [] }
/-- the call stands on one line -/
def Line (p0 p1 p2 p3 : Pos) : Prop := ∀ env : Env, eval (.Call (.Attribute (.Call (.Name "super" p0) [] [] p1) "__init__" p2) [] [] p3) env = (do
  let ov ← attributeBase (.Call (.Name "super" p0) [] [] p1) "__init__" env (eval (.Call (.Name "super" p0) [] [] p1) env)
  standAt p2.atName
  let (f, first) ← holding [ov] (getMethod ov "__init__" (do return (← importBound (.Call (.Name "super" p0) [] [] p1) env).getD true))
  callWith p3 f first (backTo p3 (starEach [] env)) [])
/-- an own class of the program over ValueError, of some depth -/
structure OwnC (K : Frag) (C DB fB : Addr) : Prop where
  cls : ∃ nm q N bs bm hdct sn sub ab col dd k0 k1 k2 k3 k5, K.lookup C = some (excClassObj nm q C N bs bm hdct sn sub ab col dd k0 k1 k2 k3 k5 "ValueError.__new__")
  cd : ∃ cd : ClassData, clsIn K C = some cd
  tp : nsIn K cStatics "thirdparty.any" = some none
  subB : mroIn K C (.ref DB) = some true
  initB : ks_superIn K C DB "__init__" = some (some (.builtin "ValueError.__init__"))
  veB : subIn K (.ref C) (.type "ValueError") = some true
section
variable {prog : Program} {w : World} {A : Around} {E : Value → Shared → Prop} {R : Result → Shared → Prop} {h h₀ : Heap} {g : Array GenState} {d : Drawn} {t : Nat} {os : OsState} {K : Frag} {mg mb : Str → Option Value} {C DB fB cdaB ccB x t0 : Addr} {qB : Str} {params : Arguments} {fdB : FuncData} {p0 p1 p2 p3 p4 : Pos}
theorem instN {h : Heap} (hx : h.get? x = some (exN C t0)) : InstAt h x (exN C t0) C none := ⟨hx, rfl, rfl, trivial⟩
/-- BillError.__init__(self) -/
theorem call_base (B : Bs K mg mb h₀) (k0 : ∀ b o, h₀.get? b = some o → h.get? b = some o) (S : SupFn K prog fB DB cdaB ccB qB params [bSup p0 p1 p2 p3 p4] scB fdB) (ns : NoSup prog) (O : OwnC K C DB fB) (ln : Line p0 p1 p2 p3) (room : A.depth < recursionLimit)
    (hx : h.get? x = some (exN C t0)) (hp : (params.posonlyargs ++ params.args).head?.map (·.arg) = some "self") (hbind : bindArgs fdB ⟨[.ref x], []⟩ = pure [(("self" : Str), Value.ref x)])
    (q : ∀ h' tk t1, (∀ b o, b ≠ x → h.get? b = some o → h'.get? b = some o) → h'.get? x = some (exN C t1) → R (.ok (.ret .none)) ⟨h', g, d, tk, os⟩) :
    codeAny (model prog w) A (.call (.ref fB) ⟨[.ref x], []⟩) R ⟨h, g, d, t, os⟩ := by
  have B1 := B.keeps k0
  have S' := S
  obtain ⟨name, dV, kV, doc, pm, ct, od, an, osl, efd, lf⟩ := S.ex
  obtain ⟨nm, qn, N, bs, bm, hdct, sn, sub, ab, col, dd, kk0, kk1, kk2, kk3, kk5, hC⟩ := O.cls
  obtain ⟨cd, hcd⟩ := O.cd
  obtain ⟨ar, har, ear⟩ : ∃ ar, (params.posonlyargs ++ params.args).head? = some ar ∧ ar.arg = "self" := by
    cases e : (params.posonlyargs ++ params.args).head? with
    | none => rw [e] at hp; cases hp
    | some ar => rw [e] at hp; exact ⟨ar, rfl, Option.some.inj hp⟩
  subst efd
  refine ks_codeAny_call_defAt (fd := ksFn name qB params [bSup p0 p1 p2 p3 p4] scB dV kV doc pm an (.ref cdaB) ct ccB) (body := [bSup p0 p1 p2 p3 p4]) (binds := [(("self" : Str), Value.ref x)]) room (B1.kin _ _ lf) rfl B1.nol (codeRec_of B1.kin S.code) rfl (.of_eq hbind) (show ∀ y ∈ scB.names, y.2 ≠ .cell by decide) (fun y hy => by
    rw [List.mem_singleton.mp hy]
    rfl) (fun h₁ hns hk₁ => ?_)
  refine ks_wpAt_execs_cons (ks_wpAt_Expr_any (ks_wpAt_MethodCall ?_ (ln _)))
  have hx1 := hk₁ _ _ hx
  have B2 := B1.keeps hk₁
  have hself : (fun y => List.lookup y ([(("self" : Str), Value.ref x)] : List (Str × Value)).reverse) ar.arg = some (.ref x) := by
    rw [ear]
    rfl
  refine sup_base B2 S' ns hns har hself (instN hx1) O.subB rfl rfl rfl (by rw [ear]; rfl) rfl (fun h2 hso k2 => ?_)
  have B3 := B2.keeps k2
  have hx2 := k2 _ _ hx1
  have hm := O.initB
  unfold ks_superIn at hm
  rw [hcd] at hm
  refine kxs_getMethod kxs_ValueError hso (looks_opaque B3.kin O.tp) (l₀ := cd.mro) (fun A Q E s k q => wpAny_bind ((looks_clsIn B3.kin hcd) A _ E s k (wpAny_pure q))) rfl B3.kin hm ((instN hx2).type.andThen (looks_subIn B3.kin O.veB)) (ks_ne B3.kin (instN hx2) hcd) rfl ?_
  have k3 : ∀ b o, h2.get? b = some o → (h2.push (kxs_mw "ValueError.__init__" x)).get? b = some o := fun b o e => Heap.get?_push_of_some _ e
  have hu : (h2.push (kxs_mw "ValueError.__init__" x)).get? h2.objs.size = some (kxs_mw "ValueError.__init__" x) := Heap.get?_push_at rfl rfl
  refine kxs_callWith (i := "ValueError.__init__") (x := x) rfl (evalArgs_empty ⟨hu, ?_⟩)
  show wpAny _ _ (call (.ref h2.objs.size) []) _ _ _
  refine mw_call PySem.F.excBase_ValueError ((B3.kin.keeps k3) _ _ hC) (k3 _ _ hx2) hu (fun h4 k4 e4 => ?_)
  show _root_.PySem.wpAt _ _ _ (execs [] _) _ _ _
  refine wpAt_of_wpAny (wpAny_pure ?_)
  exact q h4 _ _ (fun b o hb e => k4 b o hb (k3 b o (k2 b o (hk₁ b o e)))) e4
end
end ExS
set_option Elab.async false
set_option linter.all false
set_option maxRecDepth 100000
set_option maxHeartbeats 4000000
namespace ExS
open PySem PySem.W PySem.Calls PyProof.Rows
/-- such a class with an __init__ of its own: super().__init__(), then self.value = value -/
structure OwnI (K : Frag) (C fI DB fB : Addr) : Prop where
  own : OwnC K C DB fB
  initC : ks_superIn K C C "__init__" = some (some (.ref fB))
  subC : mroIn K C (.ref C) = some true
  fnB : fnIn K fB = true
  mro : ∃ cd : ClassData, clsIn K C = some cd ∧ HandSPX.refsVE cd.mro = true ∧ cd.hasDict = true
  sa : findIn K (.ref C) "__setattr__" = some (some (.builtin "object.__setattr__"))
  noV : findIn K (.ref C) "value" = some none
section
variable {prog : Program} {w : World} {A : Around} {E : Value → Shared → Prop} {R : Result → Shared → Prop} {h h₀ : Heap} {g : Array GenState} {d : Drawn} {t : Nat} {os : OsState} {K : Frag} {mg mb : Str → Option Value} {C fI cdaI ccI DB fB cdaB ccB x t0 : Addr} {qI qB : Str} {parI parB : Arguments} {fdI fdB : FuncData} {p0 p1 p2 p3 p4 p5 p6 p7 p8 r0 r1 r2 r3 r4 : Pos} {v : Value} {args : Args}
theorem nsAt {L : Addr} {m : Str → Option Value} {h h' : Heap} (n : h.Ns L m) (k : ∀ o, h.get? L = some o → h'.get? L = some o) : h'.Ns L m := by
  obtain ⟨o, es, ep, ho, r⟩ := n
  exact ⟨o, es, ep, k o ho, r⟩
/-- __init__(self, value) -/
theorem call_init (B : Bs K mg mb h₀) (k0 : ∀ b o, h₀.get? b = some o → h.get? b = some o) (x0 : h₀.get? x = none) (SI : SupFn K prog fI C cdaI ccI qI parI [bSup p0 p1 p2 p3 p4, bVal p5 p6 p7 p8] scI fdI) (SB : SupFn K prog fB DB cdaB ccB qB parB [bSup r0 r1 r2 r3 r4] scB fdB) (ns : NoSup prog) (O : OwnI K C fI DB fB) (ln : Line p0 p1 p2 p3) (ln2 : Line r0 r1 r2 r3) (room : A.depth + 1 < recursionLimit)
    (hx : h.get? x = some (exN C t0)) (hpI : (parI.posonlyargs ++ parI.args).head?.map (·.arg) = some "self") (hpB : (parB.posonlyargs ++ parB.args).head?.map (·.arg) = some "self") (hbI : ∀ s : Shared, K.In s.heap → BindsTo s fdI args [(("self" : Str), Value.ref x), (("value" : Str), v)]) (hbB : bindArgs fdB ⟨[.ref x], []⟩ = pure [(("self" : Str), Value.ref x)])
    (q : ∀ h' tk t1 dx, (∀ b o, b ≠ x → h.get? b = some o → h'.get? b = some o) → h.objs.size ≤ dx → dx ≠ x → h'.get? x = some (exD C t1 dx) → h'.Ns1 dx (fun y => if y = ("value" : Str) then some v else none) → R (.ok (.ret .none)) ⟨h', g, d, tk, os⟩) :
    codeAny (model prog w) A (.call (.ref fI) args) R ⟨h, g, d, t, os⟩ := by
  have B1 := B.keeps k0
  have S' := SI
  obtain ⟨name, dV, kV, doc, pm, ct, od, an, osl, efd, lf⟩ := SI.ex
  obtain ⟨cd, hcd, hve, hdict⟩ := O.mro
  obtain ⟨ar, har, ear⟩ : ∃ ar, (parI.posonlyargs ++ parI.args).head? = some ar ∧ ar.arg = "self" := by
    cases e : (parI.posonlyargs ++ parI.args).head? with
    | none => rw [e] at hpI; cases hpI
    | some ar => rw [e] at hpI; exact ⟨ar, rfl, Option.some.inj hpI⟩
  subst efd
  refine ks_codeAny_call_defAt (fd := ksFn name qI parI [bSup p0 p1 p2 p3 p4, bVal p5 p6 p7 p8] scI dV kV doc pm an (.ref cdaI) ct ccI) (body := [bSup p0 p1 p2 p3 p4, bVal p5 p6 p7 p8]) (binds := [(("self" : Str), Value.ref x), (("value" : Str), v)]) (by omega) (B1.kin _ _ lf) rfl B1.nol (codeRec_of B1.kin SI.code) rfl (hbI _ B1.kin) (show ∀ y ∈ scI.names, y.2 ≠ .cell by decide) (fun y hy => by
    rcases List.mem_cons.mp hy with rfl | hy
    · rfl
    · rw [List.mem_singleton.mp hy]
      rfl) (fun h₁ hns hk₁ => ?_)
  refine ks_wpAt_execs_cons (ks_wpAt_Expr_any (ks_wpAt_MethodCall ?_ (ln _)))
  have hx1 := hk₁ _ _ hx
  have B2 := B1.keeps hk₁
  have hself : (fun y => List.lookup y ([(("self" : Str), Value.ref x), (("value" : Str), v)] : List (Str × Value)).reverse) ar.arg = some (.ref x) := by
    rw [ear]
    rfl
  refine sup_base B2 S' ns hns har hself (instN hx1) O.subC rfl rfl rfl (by rw [ear]; rfl) rfl (fun h2 hso k2 => ?_)
  have B3 := B2.keeps k2
  have hx2 := k2 _ _ hx1
  have hm := O.initC
  unfold ks_superIn at hm
  rw [hcd] at hm
  obtain ⟨_, _, _, _, _, _, odB, _, oslB, _, hfB⟩ := SB.ex
  refine ks_wpAny_getMethod_super hso (looks_opaque B3.kin O.own.tp) (l₀ := cd.mro) (fun A Q E s k q => wpAny_bind ((looks_clsIn B3.kin hcd) A _ E s k (wpAny_pure q))) rfl B3.kin hm (B3.kin _ _ hfB) rfl (ks_ne B3.kin (instN hx2) hcd) rfl ?_
  have k3 : ∀ b o, h2.get? b = some o → (h2.push (methodObj (.ref fB) (.ref x))).get? b = some o := fun b o e => Heap.get?_push_of_some _ e
  have hu : (h2.push (methodObj (.ref fB) (.ref x))).get? h2.objs.size = some (methodObj (.ref fB) (.ref x)) := Heap.get?_push_at rfl rfl
  have B4 := B3.keeps k3
  refine callWith_M0 (K := K) (g := fB) (self := .ref x) ⟨hu, B4.kin⟩ O.fnB ?_
  show wpAny _ _ (call (.ref h2.objs.size) []) _ _ _
  have k04 : ∀ b o, h₀.get? b = some o → (h2.push (methodObj (.ref fB) (.ref x))).get? b = some o := fun b o e => k3 b o (k2 b o (hk₁ b o (k0 b o e)))
  refine wpAny_call (ks_codeAny_call_bound hu (call_base B k04 SB ns O.own ln2 (by show A.depth + 1 < recursionLimit; exact room) (k3 _ _ hx2) hpB hbB (fun h4 tk t1 k4 e4 => ?_)))
  -- self.value = value
  refine ks_wpAt_execs_cons (ks_wpAt_Assign_Attr ?_)
  have kk : ∀ b o, b ≠ x → h₁.get? b = some o → h4.get? b = some o := fun b o hb e => k4 b o hb (k3 b o (k2 b o e))
  have nLx : h.objs.size ≠ x := Nat.ne_of_gt (Heap.lt_size hx)
  have hns4 : h4.Ns h.objs.size (fun y => List.lookup y ([(("self" : Str), Value.ref x), (("value" : Str), v)] : List (Str × Value)).reverse) := nsAt hns (kk _ · nLx)
  have B5 : Bs K mg mb h4 := B.keeps fun b o e => kk b o (fun z => by rw [z, x0] at e; cases e) (hk₁ b o (k0 b o e))
  have ldv : ∀ {A : Around} {E : Value → Shared → Prop} {Q : Value → Shared → Prop} {gg : Array GenState} {dd : Drawn} {tt : Nat} {oo : OsState} {pp : Pos}, Q v ⟨h4, gg, dd, tt, oo⟩ → wpAny (model prog w) A (eval (.Name "value" pp) (ksEnv qI scI h.objs.size fI (.ref cdaI) ccI)) Q E ⟨h4, gg, dd, tt, oo⟩ := fun hq =>
    wpAny_Name (wpAny_loadName_local (s := ⟨h4, _, _, _, _⟩) (env := ksEnv qI scI h.objs.size fI (.ref cdaI) ccI) (m := fun y => List.lookup y ([(("self" : Str), Value.ref x), (("value" : Str), v)] : List (Str × Value)).reverse) rfl rfl hns4 rfl hq) (by decide)
  have lds : ∀ {A : Around} {E : Value → Shared → Prop} {Q : Value → Shared → Prop} {gg : Array GenState} {dd : Drawn} {tt : Nat} {oo : OsState} {pp : Pos}, Q (.ref x) ⟨h4, gg, dd, tt, oo⟩ → wpAny (model prog w) A (eval (.Name "self" pp) (ksEnv qI scI h.objs.size fI (.ref cdaI) ccI)) Q E ⟨h4, gg, dd, tt, oo⟩ := fun hq =>
    wpAny_Name (wpAny_loadName_local (s := ⟨h4, _, _, _, _⟩) (env := ksEnv qI scI h.objs.size fI (.ref cdaI) ccI) (m := fun y => List.lookup y ([(("self" : Str), Value.ref x), (("value" : Str), v)] : List (Str × Value)).reverse) rfl rfl hns4 rfl hq) (by decide)
  refine wpAt_of_wpAny (ldv ?_)
  refine lds ?_
  refine set_plain B5.kin (instN e4) O.sa ?_
  refine HandSPX.exc_osa B5.kin e4 hcd hve hdict O.noV (fun h' tk' dx k5 dn dne hx5 hn5 => ?_)
  show _root_.PySem.wpAt _ _ _ (execs [] _) _ _ _
  refine wpAt_of_wpAny (wpAny_pure ?_)
  have sz : h.objs.size ≤ h4.objs.size := by
    obtain ⟨o, es, ep, ho, _⟩ := hns4
    exact Nat.le_of_lt (Heap.lt_size ho)
  exact q h' _ t1 dx (fun b o hb e => k5 b o hb (kk b o hb (hk₁ b o e))) (Nat.le_trans sz (show h4.objs.size ≤ dx from dn)) dne hx5 hn5
end
end ExS
set_option Elab.async false
set_option linter.all false
set_option maxRecDepth 100000
set_option maxHeartbeats 4000000
namespace ExS
open PySem PySem.Spec PyProof.Rows L2
/-- all that is to be known of one such class -/
structure BillX (P : Program) (K : PySem.W.Frag) (mg : Str → Option Value) (C : Addr) (x : Str) : Prop where
  ex : ∃ (fI cdaI ccI DB fB cdaB ccB : Addr) (qI qB : Str) (parI parB : Arguments) (fdI fdB : FuncData) (p0 p1 p2 p3 p4 p5 p6 p7 p8 r0 r1 r2 r3 r4 : Pos),
    SupFn K P fI C cdaI ccI qI parI [bSup p0 p1 p2 p3 p4, bVal p5 p6 p7 p8] scI fdI ∧ SupFn K P fB DB cdaB ccB qB parB [bSup r0 r1 r2 r3 r4] scB fdB ∧ OwnI K C fI DB fB ∧ Line p0 p1 p2 p3 ∧ Line r0 r1 r2 r3 ∧
    (parI.posonlyargs ++ parI.args).head?.map (·.arg) = some ("self" : Str) ∧ (parB.posonlyargs ++ parB.args).head?.map (·.arg) = some ("self" : Str) ∧
    (∀ (a : Addr) (v : Value) (s : Shared), K.In s.heap → BindsTo s fdI ⟨[.ref a, v], []⟩ [(("self" : Str), Value.ref a), (("value" : Str), v)]) ∧ (∀ (a : Addr) (s : Shared), K.In s.heap → BindsTo s fdI ⟨[.ref a], []⟩ [(("self" : Str), Value.ref a), (("value" : Str), Value.none)]) ∧ (∀ (a : Addr) (v : Value) (s : Shared), K.In s.heap → BindsTo s fdI ⟨[.ref a], [(("value" : Str), v)]⟩ [(("self" : Str), Value.ref a), (("value" : Str), v)]) ∧ (∀ a : Addr, bindArgs fdB ⟨[.ref a], []⟩ = pure [(("self" : Str), Value.ref a)]) ∧
    PySem.W.findIn K (.ref C) "__init__" = some (some (.ref fI)) ∧ PySem.W.typeIn K (.ref fI) = some (.type "function")
  cls : ∃ nm q N bs bm hdct sn sub ab col dd k0 k1 k2 k3 k5, K.lookup C = some (excClassObj nm q C N bs bm hdct sn sub ab col dd k0 k1 k2 k3 k5 "ValueError.__new__") ∧ PySem.HandSPX.refsVE bm = true
  ns : NoSup P
  sup : mg "super" = none
  gC : mg x = some (.ref C)
  kC : PySem.W.keepIn K (.ref C) = true
  exC : PySem.W.subIn K (.ref C) (.type "BaseException") = some true
  tyC : PySem.W.typeIn K (.ref C) = some (.type "type")
def tBill (C : Addr) (te : TE) : L2.St → Hp → XK → Prop := fun σ H Q => te σ H fun y H1 => ∃ v, [y] = [v] ∧ ∀ d, H1 d = none → Q (.ref C) (some d) (upd H1 d (.xd [("value", v)]))
def qBill (C : Addr) (Q : XK) : List V → Hp → Prop := fun vs H1 => ∃ v, vs = [v] ∧ ∀ d, H1 d = none → Q (.ref C) (some d) (upd H1 d (.xd [("value", v)]))
theorem pmk_bill {X : Cx} {x : Str} {C : Addr} {e : Expr} {te : TE} {k : Nat} {p pos : Pos} (T : BillX X.prog X.K X.mg C x) (hr : Room (k + 1) X.A) (hg : Gl X x) (ha : PE X e te)
    (hdb : (x == ("__debug__" : Str)) = false := by decide) (he : starEach [e] X.env = (false, eval e X.env) :: starEach [] X.env := by rfl) (hpl : (backTo pos (starEach [] X.env)).any (·.1) = false := by rfl) :
    PMk X (.Call (.Name x p) [e] [] pos) (tBill C te) := by
  intro pins s σ H Q I h
  obtain ⟨nm, qn, N, bs, bm, hdct, sn, sub, ab, col, dd, k0, k1, k2, k3, k5, hC, hbm⟩ := T.cls
  obtain ⟨fI, cdaI, ccI, DB, fB, cdaB, ccB, qI, qB, parI, parB, fdI, fdB, p0, p1, p2, p3, p4, p5, p6, p7, p8, r0, r1, r2, r3, r4, SI, SB, OI, ln, ln2, hpI, hpB, bI, bI0, bIk, bB, iC, tI⟩ := T.ex
  refine wpAny_Call_Name_kw (ld_glob I hg T.gC ?_ hdb)
  have h2 : tCons te tNil σ H (qBill C Q) := h
  refine PySem.W.callWith_K (h₀ := X.base) I.ok.mod.kin T.kC (thn ((pa_cons ha pa_nil he).run pos pins s σ H (qBill C Q) I h2) fun us s1 ⟨vs, H1, I1, rr, q0⟩ => ⟨I1.kIn, ?_⟩) he hpl
  show wpAny _ _ (call (.ref C) us) _ _ _
  obtain ⟨v, rfl, q1⟩ := q0
  obtain ⟨u, rfl, ru⟩ := vals1 rr
  obtain ⟨hp, g, dr, tk, os⟩ := s1
  obtain ⟨mb, gb, eb⟩ := I1.mod.blt
  have B : Bs X.K X.mg mb X.base := ⟨I1.mod.kin, I1.mod.glob, gb, T.sup, (eb "super" (by decide)).trans (by decide +kernel), I1.mod.nolimit⟩
  have hn : H1 (hp.objs.size + 1) = none := I1.hok.fresh (Nat.le_succ _)
  have kk : ∀ b o, hp.get? b = some o → ((hp.push (PySem.W.kdv_tup [u])).push (PySem.HandSPX.excO C hp.objs.size)).get? b = some o := fun b o e => Heap.get?_push_of_some _ (Heap.get?_push_of_some _ e)
  have hget : ((hp.push (PySem.W.kdv_tup [u])).push (PySem.HandSPX.excO C hp.objs.size)).get? (hp.objs.size + 1) = some (PySem.HandSPX.excO C hp.objs.size) := by heap_get
  have x0 : X.base.get? (hp.objs.size + 1) = none := by
    cases e : X.base.get? (hp.objs.size + 1) with
    | none => rfl
    | some o =>
      have := Heap.lt_size (I1.bk _ _ e)
      exact absurd this (by show ¬ hp.objs.size + 1 < hp.objs.size; omega)
  have hsz2 : ((hp.push (PySem.W.kdv_tup [u])).push (PySem.HandSPX.excO C hp.objs.size)).objs.size = hp.objs.size + 2 := by rw [Heap.size_push, Heap.size_push]
  refine wpAny_call (PySem.HandSPX.call_own F.excBase_ValueError (fun Y => PySem.HandSPX.refsVE_contains Y bm hbm) (I1.kIn _ _ hC) (PySem.W.looks_findIn I1.kIn iC) (fun self => PySem.W.bind_fn I1.kIn self tI) (by show 1 ≤ sizeLine; decide) ?_)
  have room : (X.A.under (.builtin "type.__call__" ⟨.ref C :: [u], []⟩)).depth + 1 < recursionLimit := by
    have := (hr.make C [u] []).dp
    omega
  refine call_init B (fun b o e => kk b o (I1.bk b o e)) x0 SI SB T.ns OI ln ln2 room hget hpI hpB (bI _ _) (bB _) (fun h' tk' t1 dx k5' sz dne hx5 hn5 => ?_)
  refine ⟨rfl, ?_⟩
  rw [hsz2] at sz
  obtain ⟨G, g1, g2⟩ := restrict h' fun b => decide (b ≠ hp.objs.size + 1)
  have gk : ∀ b, b ≠ hp.objs.size + 1 → G.get? b = h'.get? b := fun b hb => g1 b (decide_eq_true hb)
  have ge : G.get? (hp.objs.size + 1) = none := g2 _ (by simp)
  have keepG : ∀ b o, hp.get? b = some o → G.get? b = some o := fun b o e => by
    have hb : b ≠ hp.objs.size + 1 := Nat.ne_of_lt (Nat.lt_succ_of_lt (Heap.lt_size e))
    rw [gk b hb]
    exact k5' b o hb (kk b o e)
  have hd1 : H1 dx = none := I1.hok.fresh (Nat.le_trans (Nat.le_add_right hp.objs.size 2) sz)
  have J : Inv X pins σ (upd H1 dx (.xd [("value", v)])) ⟨G, g, dr, tk', os⟩ := I1.laid (t' := tk') (a := dx) (o := .xd [("value", v)]) (h' := G) keepG (Nat.le_trans (Nat.le_add_right hp.objs.size 2) sz)
    ⟨_, hn5.at fun o y => (gk dx dne).trans y, relO_put (fs := []) (mA := fun _ => none) ru fun g => True.intro⟩
  refine ⟨hp.objs.size + 1, _, _, ⟨G, g, dr, tk', os⟩, upd H1 dx (.xd [("value", v)]), .ref C, some dx, rfl, J, fun b o e => ?_, ge, hx5, ⟨rfl, rfl⟩, rfl, rfl, ?_, rfl, I1.bare, raises_own T.exC T.tyC, q1 dx hd1⟩
  · by_cases hb : b = hp.objs.size + 1
    · rw [hb, ge] at e
      cases e
    · exact (gk b hb).symm.trans e
  · rw [upd_ne dne.symm]
    exact hn
end ExS
set_option Elab.async false
set_option linter.all false
set_option maxRecDepth 100000
set_option maxHeartbeats 4000000
namespace ExS
open PySem PySem.Spec PyProof.Rows L2
theorem pmk_bill0 {X : Cx} {x : Str} {C : Addr} {k : Nat} {p pos : Pos} (T : BillX X.prog X.K X.mg C x) (hr : Room (k + 1) X.A) (hg : Gl X x)
    (hdb : (x == ("__debug__" : Str)) = false := by decide)  :
    PMk X (.Call (.Name x p) [] [] pos) (fun _ H Q => ∀ d, H d = none → Q (.ref C) (some d) (upd H d (.xd [("value", .non)]))) := by
  intro pins s σ H Q I h
  obtain ⟨nm, qn, N, bs, bm, hdct, sn, sub, ab, col, dd, k0, k1, k2, k3, k5, hC, hbm⟩ := T.cls
  obtain ⟨fI, cdaI, ccI, DB, fB, cdaB, ccB, qI, qB, parI, parB, fdI, fdB, p0, p1, p2, p3, p4, p5, p6, p7, p8, r0, r1, r2, r3, r4, SI, SB, OI, ln, ln2, hpI, hpB, bI, bI0, bIk, bB, iC, tI⟩ := T.ex
  refine wpAny_Call_Name_kw (ld_glob I hg T.gC ?_ hdb)
  refine PySem.W.callWith_K0 I.kIn T.kC ?_
  show wpAny _ _ (call (.ref C) []) _ _ _
  obtain ⟨hp, g, dr, tk, os⟩ := s
  obtain ⟨mb, gb, eb⟩ := I.mod.blt
  have B : Bs X.K X.mg mb X.base := ⟨I.mod.kin, I.mod.glob, gb, T.sup, (eb "super" (by decide)).trans (by decide +kernel), I.mod.nolimit⟩
  have hn : H (hp.objs.size + 1) = none := I.hok.fresh (Nat.le_succ _)
  have kk : ∀ b o, hp.get? b = some o → ((hp.push (PySem.W.kdv_tup [])).push (PySem.HandSPX.excO C hp.objs.size)).get? b = some o := fun b o e => Heap.get?_push_of_some _ (Heap.get?_push_of_some _ e)
  have hget : ((hp.push (PySem.W.kdv_tup [])).push (PySem.HandSPX.excO C hp.objs.size)).get? (hp.objs.size + 1) = some (PySem.HandSPX.excO C hp.objs.size) := by heap_get
  have x0 : X.base.get? (hp.objs.size + 1) = none := by
    cases e : X.base.get? (hp.objs.size + 1) with
    | none => rfl
    | some o =>
      have := Heap.lt_size (I.bk _ _ e)
      exact absurd this (by show ¬ hp.objs.size + 1 < hp.objs.size; omega)
  have hsz2 : ((hp.push (PySem.W.kdv_tup [])).push (PySem.HandSPX.excO C hp.objs.size)).objs.size = hp.objs.size + 2 := by rw [Heap.size_push, Heap.size_push]
  refine wpAny_call (PySem.HandSPX.call_own F.excBase_ValueError (fun Y => PySem.HandSPX.refsVE_contains Y bm hbm) (I.kIn _ _ hC) (PySem.W.looks_findIn I.kIn iC) (fun self => PySem.W.bind_fn I.kIn self tI) (by show 0 ≤ sizeLine; decide) ?_)
  have room : (X.A.under (.builtin "type.__call__" ⟨.ref C :: [], []⟩)).depth + 1 < recursionLimit := by
    have := (hr.make C [] []).dp
    omega
  refine call_init B (fun b o e => kk b o (I.bk b o e)) x0 SI SB T.ns OI ln ln2 room hget hpI hpB (bI0 _) (bB _) (fun h' tk' t1 dx k5' sz dne hx5 hn5 => ?_)
  refine ⟨rfl, ?_⟩
  rw [hsz2] at sz
  obtain ⟨G, g1, g2⟩ := restrict h' fun b => decide (b ≠ hp.objs.size + 1)
  have gk : ∀ b, b ≠ hp.objs.size + 1 → G.get? b = h'.get? b := fun b hb => g1 b (decide_eq_true hb)
  have ge : G.get? (hp.objs.size + 1) = none := g2 _ (by simp)
  have keepG : ∀ b o, hp.get? b = some o → G.get? b = some o := fun b o e => by
    have hb : b ≠ hp.objs.size + 1 := Nat.ne_of_lt (Nat.lt_succ_of_lt (Heap.lt_size e))
    rw [gk b hb]
    exact k5' b o hb (kk b o e)
  have hd1 : H dx = none := I.hok.fresh (Nat.le_trans (Nat.le_add_right hp.objs.size 2) sz)
  have J : Inv X pins σ (upd H dx (.xd [("value", .non)])) ⟨G, g, dr, tk', os⟩ := I.laid (t' := tk') (a := dx) (o := .xd [("value", .non)]) (h' := G) keepG (Nat.le_trans (Nat.le_add_right hp.objs.size 2) sz)
    ⟨_, hn5.at fun o y => (gk dx dne).trans y, relO_put (fs := []) (mA := fun _ => none) (y := .non) (u := Value.none) rfl fun g => True.intro⟩
  refine ⟨hp.objs.size + 1, _, _, ⟨G, g, dr, tk', os⟩, upd H dx (.xd [("value", .non)]), .ref C, some dx, rfl, J, fun b o e => ?_, ge, hx5, ⟨rfl, rfl⟩, rfl, rfl, ?_, rfl, I.bare, raises_own T.exC T.tyC, h dx hd1⟩
  · by_cases hb : b = hp.objs.size + 1
    · rw [hb, ge] at e
      cases e
    · exact (gk b hb).symm.trans e
  · rw [upd_ne dne.symm]
    exact hn
end ExS
set_option Elab.async false
set_option linter.all false
set_option maxRecDepth 100000
set_option maxHeartbeats 4000000
/-! except X as e: suite, where the exception is kept behind the suite, in another name. -/
namespace ExS
open PySem PySem.Spec PyProof.Rows L2
/-- an exception that was caught and is kept, of the class cls, its dict at d -/
def ExK (cls : Value) (d : Option Addr) (a : Addr) : HO := .ext fun h => ∃ (oe : Obj) (vs : Array Value), h.get? a = some oe ∧ Zc cls d oe ∧ oe.data = .fields vs
theorem exK_ok {P : Program} {w : World} {H : Hp} {h : Heap} {a : Addr} {cls : Value} {d : Option Addr} {oe : Obj} {vs : Array Value} (e : h.get? a = some oe) (z : Zc cls d oe) (q : oe.data = .fields vs) : ObjOk P w H h a (ExK cls d a) :=
  ⟨⟨oe, vs, e, z, q⟩, ⟨oe, e⟩, fun _ _ ⟨o, v, q, r⟩ k => ⟨o, v, k o q, r⟩⟩
section
variable {X : Cx} {pins : List (Addr × Obj)} {σ : L2.St} {H : Hp} {s : Shared} {a : Addr} {oe : Obj} {vs : Array Value} {cls : Value} {d : Option Addr}
theorem Inv.unsuiteP {pn' : List (Addr × Obj)} {q : Addr × Obj} (I : Inv (X.suite a (q :: (X.pn ++ pins))) pn' σ H s) (ok : X.Ok) : Inv X (q :: pins) σ H s :=
  ⟨ok, I.os, I.bare, I.base, I.loc, I.cell, I.free, I.freeC, fun p hp => I.pin p (List.mem_append_left _ (by
    rcases List.mem_append.mp hp with h | h
    · exact List.mem_cons_of_mem _ (List.mem_append_left _ h)
    · rcases List.mem_cons.mp h with h | h
      · rw [h]
        exact List.mem_cons_self ..
      · exact List.mem_cons_of_mem _ (List.mem_append_right _ h))), I.hok, I.len⟩
/-- what is pinned is known from now on -/
theorem Inv.kept (I : Inv X ((a, oe) :: pins) σ H s) (z : Zc cls d oe) (hd : oe.data = .fields vs) (n0 : X.s_0.heap.get? a = none) (hp : ∀ p ∈ X.pn ++ pins, p.1 ≠ a) : Inv X pins σ (upd H a (ExK cls d a)) s := by
  obtain ⟨ha, na, nL, nF, nc⟩ := I.pin (a, oe) (List.mem_append_right _ (List.mem_cons_self ..))
  have ne0 : ∀ b o, X.s_0.heap.get? b = some o → b ≠ a := fun b o e y => by
    rw [y, n0] at e
    cases e
  have neH : ∀ {b : Addr} {o : HO}, H b = some o → b ≠ a := fun {b o} e y => by
    rw [y, na] at e
    cases e
  have cne : ∀ x c, X.env.cells.lookup x = some c → c ≠ a := fun x c e y => by
    obtain ⟨v, o, ho, hv⟩ := I.cell x c e
    rw [y] at ho
    have := Option.some.inj (ho.symm.trans ha)
    rw [this] at hv
    exact nc _ hv
  refine ⟨I.ok, I.os, I.bare, ⟨I.base.keep, I.base.slot, fun b o e n hx => ?_, I.base.there, fun b xs e => ?_, fun b o u e => ?_, fun b ps e => ?_⟩, I.loc, I.cell, ?_, fun x c e => ?_, fun p hpp => ?_, fun b u e => ?_, I.len⟩
  · rw [upd_ne (ne0 b o e)]
    exact I.base.free b o e n hx
  · have z := I.base.tups b xs e
    rw [upd_ne (neH z)]
    exact z
  · have z := I.base.frzs b o u e
    rw [upd_ne (neH z)]
    exact z
  · obtain ⟨more, z⟩ := I.base.tbls b ps e
    exact ⟨more, by rw [upd_ne (neH z)]; exact z⟩
  · rw [upd_ne (Ne.symm nL)]
    exact I.free
  · rw [upd_ne (cne x c e)]
    exact I.freeC x c e
  · obtain ⟨e, n, ne, nf, dd⟩ := I.pin p (by
      rcases List.mem_append.mp hpp with h | h
      · exact List.mem_append_left _ h
      · exact List.mem_append_right _ (List.mem_cons_of_mem _ h))
    exact ⟨e, by rw [upd_ne (hp p hpp)]; exact n, ne, nf, dd⟩
  · by_cases hb : b = a
    · rw [hb] at e ⊢
      rw [upd_same] at e
      cases e
      exact exK_ok ha z hd
    · rw [upd_ne hb] at e
      exact (I.hok b u e).stay (fun c v _ q => q) (fun c q => by rw [upd_ne (neH q)]; exact q) fun c xs q => by rw [upd_ne (neH q)]; exact q
end
/-- what the clause 'except x as n' wishes of an exception of the body, which is kept behind the suite -/
def wKeep (K : PySem.W.Frag) (c : Value) (i : Nat) (ts : Addr → Value → Option Addr → TS) (Wout : WX) (D : Ends) : WX := fun cls d σ H =>
  ∃ b, PySem.W.exmOne K cls c = some b ∧ (b = true → ∀ a, H a = none → ts a cls d { nx := fun σ' H' => D.nx (σ'.set i none) (upd H' a (ExK cls d a)), rt := fun _ _ => False, bk := fun _ _ => False, ct := fun _ _ => False } (σ.set i (some (.ref a))) H) ∧
    (b = false → Wout cls d σ H)
section
variable {X : Cx} {x n : Str} {c : Value} {i : Nat} {body suite : List Stmt} {b₀ : Stmt} {np pos pos' : Pos} {tb : WX → TS} {ts : Addr → Value → Option Addr → TS} {Wout : WX}
theorem ps_try_keep (hs : X.stack = X.env :: X.outer) (hf : X.env.frame = some X.env.locals) (hN : X.N.Nodup) (hi : X.N[i]? = some n) (hln : X.env.kindOf n = some .local) (hc : Names X x c) (tk : Takes X Wout) (hex : X.ex = [])
    (hb : ∀ (W : WX) (pn : List (Addr × Obj)) (xe : Value → Shared → Prop), Takes (X.tr pn xe) W → PassesOwn (model X.prog X.w) X.A X.env xe → PSs (X.tr pn xe) body (tb W))
    (hsu : ∀ (a : Addr) (oe : Obj) (cls : Value) (d : Option Addr) (pn : List (Addr × Obj)), Zc cls d oe → (∃ vs, oe.data = .fields vs) → PSs (X.suite a ((a, oe) :: pn)) (b₀ :: suite) (ts a cls d)) :
    PS X (.Try body [.ExceptHandler (some (.Name x np)) (some n) (b₀ :: suite) pos'] [] [] pos) (fun D σ H => tb (wKeep X.K c i ts Wout D) D σ H) := by
  refine ⟨fun pins s σ H D I h => ?_⟩
  have ok := I.ok
  have hfr : X.A.frames = some (X.env :: X.outer) := by rw [ok.frames, hs]
  have hloc : Loc X.env.scope n := .inl hln
  refine wpAny_Try_except ?_
  refine wpAny_mono ((hb (wKeep X.K c i ts Wout D) (X.pn ++ pins) (fun e s₁ => wpAny (model X.prog X.w) X.A (noteFrame e X.env) (fun _ s₂ => wpAny (model X.prog X.w) X.A (setFlight e none) (fun _ s₃ =>
    wpAny (model X.prog X.w) X.A (handleBy e X.env [.ExceptHandler (some (.Name x np)) (some n) (b₀ :: suite) pos']) (SP X pins D) X.xe s₃) X.xe s₂) X.xe s₁) (fun u s' xx => ?_) PassesOwn.looking).run [] s σ H D (I.toTry _) h) (fun f s1 hsp => ?_) (fun e s1 he => he)
  · -- the catch
    obtain ⟨a, B, sI, pins', σ', H', cls, d, rfl, J', nb, up, sky, na, os, ag, b, hb1, hyes, hno⟩ := xx
    have J : Inv X pins σ' H' sI := J'.ofTry ok
    have sky' : Sky B (X.env :: X.outer) a (Zc cls d) X.env.locals s'.heap := by rw [← hs]; exact sky
    have Ba : B.get? a = none := by
      rcases sky' with z | z | z
      · exact z.2.1
      · exact z.2.1
      · exact z.2.1
    show wpAny (model X.prog X.w) X.A (noteFrame (.ref a) X.env) _ _ _
    refine Sky.land Zc.steady hfr hf sky' fun h3 fl3 up3 => ?_
    have J3 : Inv X pins σ' H' { s' with heap := h3 } := J.landed nb fl3.1 (up.trans up3) os ag
    obtain ⟨oe3, vs3, he3, hz3, hd3⟩ := fl3.there
    have notFr : ∀ {h : Heap} {o : Obj} {vs : Array Value}, h.FunFrames B (X.env :: X.outer) → h.get? a = some o → o.data = .fields vs → a ∉ frs (X.env :: X.outer) := fun {h o vs} ff e dd hm => by
      obtain ⟨_, o', e', hnf⟩ := ff.mem hm
      rw [e] at e'; cases e'
      exact hnf _ dd
    have nfr := notFr fl3.2.2.1 he3 hd3
    have nL : a ≠ X.env.locals := fun z => nfr (List.mem_filterMap.mpr ⟨X.env, List.mem_cons_self, by rw [hf, z]⟩)
    have nF : a ∉ X.fs := fun hm => by
      obtain ⟨e, he, q⟩ := List.mem_filterMap.mp hm
      exact nfr (List.mem_filterMap.mpr ⟨e, List.mem_cons_of_mem _ he, q⟩)
    have nI : sI.heap.get? a = none := by
      cases e : sI.heap.get? a with
      | none => rfl
      | some o =>
        have z := nb a o e (by rw [hs]; exact nfr)
        rw [Ba] at z
        cases z
    have n0 : X.s_0.heap.get? a = none := by
      cases e : X.s_0.heap.get? a with
      | none => rfl
      | some o =>
        obtain ⟨o', z⟩ := J.base.there a o e (by rw [hex]; exact List.not_mem_nil)
        rw [nI] at z
        cases z
    have hpn : ∀ p ∈ X.pn ++ pins, p.1 ≠ a := fun p hp y => by
      have z := (J.pin p hp).1
      rw [y, nI] at z
      cases z
    have S3 := J3.suite he3 hd3 na nL nF
    refine wpAny_handleBy_cons (codeAny_handlers_test ?_) (by intro q; cases q)
    have LT : PySem.W.Looks (model X.prog X.w) h3 (typeOf (.ref a)) cls := fun A Q E s k q => wpAny_typeOf_ref (k _ _ he3) (by rw [hz3.1]; exact q)
    have LM := PySem.W.exm_one (M := model X.prog X.w) (J3.kIn) LT hb1
    have test : ∀ {Q : Value → Shared → Prop} {E : Value → Shared → Prop}, Q c { s' with heap := h3 } → wpAny (model X.prog X.w) (X.A.mark (some (.ref a))) (eval (.Name x np) X.env) Q E { s' with heap := h3 } := fun {Q E} q => by
      obtain ⟨hg, hdbg, hm | ⟨hm, hv, hnn⟩⟩ := hc
      · exact ld_glob (X := X.suite a ((a, oe3) :: (X.pn ++ pins))) S3 hg hm q hdbg
      · exact ld_blt (X := X.suite a ((a, oe3) :: (X.pn ++ pins))) S3 hg hm hv q hnn hdbg
    refine test (LM.here ?_)
    cases b with
    | true =>
      refine codeAny_handlers_suite_as ?_
      refine HandSPX.lands_againZ fl3 fun h4 fl4 up4 => ?_
      have J4 : Inv X pins σ' H' { s' with heap := h4 } := J.landed nb fl4.1 ((up.trans up3).trans up4) os ag
      obtain ⟨oe4, vs4, he4, hz4, hd4⟩ := fl4.there
      have S4 := J4.suite he4 hd4 na nL nF
      refine store_ok (X := X.suite a ((a, oe4) :: (X.pn ++ pins))) (v := .ref a) S4 hN hi hloc rfl (fun s5 S5 => ?_) (.inr hln)
      refine wpAny_mono ((hsu a oe4 cls d (X.pn ++ pins) hz4 ⟨_, hd4⟩).run [] s5 _ H' _ S5 (hyes rfl a na)) (fun f s6 hsp => ?_) (fun _ _ z => False.elim z)
      cases f with
      | next =>
        obtain ⟨σ6, H6, S6, q6⟩ := hsp
        exact gone_ok (ExS.Inv.unsuiteP S6 ok) hN hi hln fun s7 J7 => ⟨_, _, ExS.Inv.kept J7 hz4 hd4 n0 hpn, q6⟩
      | brk =>
        obtain ⟨σ6, H6, S6, q6⟩ := hsp
        exact q6.elim
      | cont =>
        obtain ⟨σ6, H6, S6, q6⟩ := hsp
        exact q6.elim
      | ret u =>
        obtain ⟨v6, σ6, H6, S6, r6, q6⟩ := hsp
        exact q6.elim
    | false =>
      show wpAny _ X.A (handleBy (.ref a) X.env []) _ _ _
      refine wpAny_handleBy_nil ?_
      obtain ⟨k1, k2, k3, oe, vs, T, oT, ts', he, hz, hd, h1, hr⟩ := id fl3
      unfold PySem.passOn
      refine wpAny_bind (wpAny_field he hd h1 ?_)
      rw [if_neg (show ¬ ((Value.ref T == Value.none) = true) from by simp)]
      have fin : wpAny (model X.prog X.w) X.A (setFlight (.ref a) X.env.frame) (fun _ s4 => wpAny (model X.prog X.w) X.A (throw (.ref a) : Sem Flow) (SP X pins D) X.xe s4) X.xe { s' with heap := h3 } := by
        rw [hf]
        refine HandSPX.setFlight_upZ fl3 fun h4 hh4 up4 => wpAny_throw (tk _ _ ?_)
        exact ⟨a, B, sI, pins, σ', H', cls, d, rfl, J, nb, (up.trans up3).trans up4, .inr (.inr (by rw [hs]; exact hh4)), na, os, ag, hno rfl⟩
      first
        | exact wpAny_bind (wpAny_pure (wpAny_bind fin))
        | exact wpAny_bind fin
  · cases f with
    | next =>
      obtain ⟨σ', H', J', q⟩ := hsp
      exact wpAny_execs_nil ⟨σ', H', J'.ofTry ok, q⟩
    | brk =>
      obtain ⟨σ', H', J', q⟩ := hsp
      exact ⟨σ', H', J'.ofTry ok, q⟩
    | cont =>
      obtain ⟨σ', H', J', q⟩ := hsp
      exact ⟨σ', H', J'.ofTry ok, q⟩
    | ret u =>
      obtain ⟨v, σ', H', J', r, q⟩ := hsp
      exact ⟨v, σ', H', J'.ofTry ok, r, q⟩
end
end ExS
set_option Elab.async false
set_option linter.all false
set_option maxRecDepth 100000
set_option maxHeartbeats 4000000
/-! isinstance of such an exception, and its field. -/
namespace ExS
open PySem PySem.Spec PyProof.Rows L2
theorem exK_at {P : Program} {w : World} {H : Hp} {h : Heap} {a : Addr} {cls : Value} {d : Option Addr} (hok : HOk P w H h) (e : H a = some (ExK cls d a)) : ∃ (oe : Obj) (vs : Array Value), h.get? a = some oe ∧ Zc cls d oe ∧ oe.data = .fields vs := by
  have x : ObjOk P w H h a (ExK cls d a) := hok a _ e
  exact x.1
theorem inst_at {P : Program} {w : World} {H : Hp} {h : Heap} {a D dx : Addr} {fs : List (Str × V)} (hok : HOk P w H h) (e : H a = some (ExK (.ref D) (some dx) a)) (ed : H dx = some (.xd fs)) : ∃ (oe od : Obj) (mA : Str → Option Value), PySem.W.InstAt h a oe D (some od) ∧ (∀ f, RelO (fs.lookup f) (mA f)) ∧ ∀ n : Str, PySem.W.lookIn n od = some (mA n) := by
  obtain ⟨oe, vs, ha, hz, hd⟩ := exK_at hok e
  have hx : ObjOk P w H h dx (.xd fs) := hok dx _ ed
  obtain ⟨mA, hns, hr⟩ := hx
  obtain ⟨od, ho, hl⟩ := lookIn_ns hns
  exact ⟨oe, od, mA, ⟨ha, hz.1, by unfold PySem.W.notCls; rw [hd] <;> rfl, by rw [hz.2]; exact ho⟩, hr, hl⟩
/-- isinstance(x, c): of whatever, also of an exception that is kept -/
def rIsX (K : PySem.W.Frag) : List V → Hp → VK → Prop := fun xs H Q => rIsi K xs H Q ∨
  ∃ (a D dx : Addr) (fs : List (Str × V)) (c : V) (cv : Value) (b : Bool), xs = [.ref a, c] ∧ H a = some (ExK (.ref D) (some dx) a) ∧ H dx = some (.xd fs) ∧ ExcC K D ∧ ClsV c cv ∧ PySem.W.kitOne K (.ref D) cv = some b ∧ Q (.bl b) H
theorem call_isX {X : Cx} : CallR X (.builtin "isinstance") (rIsX X.K) := by
  intro pins s σ H xs us Q I r h
  rcases h with h | ⟨a, D, dx, fs, c, cv, b, rfl, ea, ed, C, hcv, e, q⟩
  · exact call_isi pins s σ H xs us Q I r h
  · obtain ⟨u1, u2, rfl, r1, r2⟩ := vals2 r
    cases r1
    have e2 := hcv.eq r2
    subst e2
    obtain ⟨oe, od, mA, J, _, _⟩ := inst_at I.hok ea ed
    have hcl : (PySem.W.clsIn X.K D).isSome = true := by
      obtain ⟨cd, hc, _⟩ := PySem.W.any_some C.hd
      rw [hc]
      rfl
    exact PySem.W.kia_one (PySem.W.kitx_exc hcl C.hg C.hk C.hs C.ha C.hn C.ht C.hm) I.kIn J e (fun z => nomatch z) fun tk => ⟨.bl b, H, I.kept (t' := tk) fun _ _ z => z, rfl, q⟩
/-- e.value, e such an exception -/
def tKf (K : PySem.W.Frag) (n : Str) (te : TE) : TE := fun σ H Q => te σ H fun x H1 => ∃ (a C dd : Addr) (fs : List (Str × V)) (v : V), x = .ref a ∧ H1 a = some (ExK (.ref C) (some dd) a) ∧ XfC K C ∧ PySem.W.findIn K (.ref C) n = some none ∧ H1 dd = some (.xd fs) ∧ fs.lookup n = some v ∧ Q v H1
theorem pe_kf {X : Cx} {e : Expr} {te : TE} {pos : Pos} {n : Str} (he : PE X e te) (hb : attributeBase e n X.env (eval e X.env) = eval e X.env := by rfl) : PE X (.Attribute e n pos) (tKf X.K n te) := by
  refine ⟨fun pins s σ H Q I h => ?_⟩
  refine attr_of hb (thn (he.run pins s σ H _ I h) fun u s1 hh => ?_)
  obtain ⟨x, H1, I1, rx, a, C, dd, fs, v, ex, ea, T, hno, ed, l, q⟩ := hh
  subst ex
  obtain rfl : u = Value.ref a := rx
  obtain ⟨oe, od, mA, J, hr, hl⟩ := inst_at I1.hok ea ed
  obtain ⟨u, hu, ru⟩ := RelO.some_of (v := v) (o := mA n) (by rw [← l]; exact hr n)
  exact HandSPX.exc_get I1.kIn J T.ga T.gg T.exC (PySem.W.findObj_own T.hdC hno rfl (by rw [hl, hu])) (handed_of ru) ⟨v, H1, I1.tok _, ru, q⟩
end ExS
set_option Elab.async false
set_option linter.all false
set_option maxRecDepth 100000
set_option maxHeartbeats 4000000
/-! An exception made and held as a value. -/
namespace ExS
open PySem PySem.Spec PyProof.Rows L2
/-- an exception that is made, not raised: tracked from now on -/
def tMade (t : L2.St → Hp → XK → Prop) : TE := fun σ H Q => t σ H fun cls d H' => ∀ a, H' a = none → Q (.ref a) (upd H' a (ExK cls d a))
theorem pe_made {X : Cx} {e : Expr} {t : L2.St → Hp → XK → Prop} (h : PMk X e t) : PE X e (tMade t) := by
  refine ⟨fun pins s σ H Q I hq => ?_⟩
  refine wpAny_mono (h pins s σ H _ I hq) (fun u s1 hu => ?_) fun _ _ x => x
  obtain ⟨a, oe, vs, sI, H', cls, d, rfl, J, k, hne, ha, hz, hd, h1, na, os, ag, r, q⟩ := hu
  have J2 : Inv X pins σ H' ⟨sI.heap, s1.gens, s1.drawn, s1.toks, s1.os⟩ := ⟨J.ok, by rw [os]; exact J.os, ag, J.base, J.loc, J.cell, J.free, J.freeC, J.pin, J.hok, J.len⟩
  exact ⟨.ref a, _, J2.laidN (h' := s1.heap) (t' := s1.toks) k hne na (exK_ok ha hz hd), rfl, q a na⟩
/-- InvalidX(e) as a value -/
theorem pe_bill {X : Cx} {x : Str} {C : Addr} {e : Expr} {te : TE} {k : Nat} {p pos : Pos} (T : BillX X.prog X.K X.mg C x) (hr : Room (k + 1) X.A) (hg : Gl X x) (ha : PE X e te)
    (hdb : (x == ("__debug__" : Str)) = false := by decide) (he : starEach [e] X.env = (false, eval e X.env) :: starEach [] X.env := by rfl) (hpl : (backTo pos (starEach [] X.env)).any (·.1) = false := by rfl) :
    PE X (.Call (.Name x p) [e] [] pos) (tMade (tBill C te)) := pe_made (pmk_bill T hr hg ha hdb he hpl)
end ExS
set_option Elab.async false
set_option linter.all false
set_option maxRecDepth 100000
set_option maxHeartbeats 4000000
/-! An exception class called with keywords alone. -/
namespace ExS
open PySem PySem.Spec PySem.Calls PySem.HandSPX
section
variable {prog : Program} {w : World} {M : Model} {A : Around} {E : Value → Shared → Prop} {R : Result → Shared → Prop} {h : Heap} {g : Array GenState} {d : Drawn} {t : Nat} {os : OsState} {C N : Addr} {nm q : Str} {bs bm bmB : List Value} {hdct ab : Bool} {sn : List Str} {sub : List Value} {col : Option Bool} {dd : Option Addr} {k0 k1 k2 k3 k5 : Option Value} {B newId initId : String} {kw : List (Str × Value)}
theorem kw_new_check (F : ExcBaseFacts B newId initId bmB) (hT : ∀ X : String, bm.contains (.type X) = bmB.contains (.type X)) {Q : Unit → Shared → Prop}
    (hC : h.get? C = some (excClassObj nm q C N bs bm hdct sn sub ab col dd k0 k1 k2 k3 k5 newId)) (hq : Q () ⟨h, g, d, t, os⟩) : wpAny M A (checkBuiltinCall newId ⟨[.ref C], kw⟩) Q E ⟨h, g, d, t, os⟩ := by
  have hB : (Value.ref C :: bm).contains (.type B) = true := by rw [List.contains_cons, hT, F.hasB, Bool.or_true]
  have hs := F.noStar
  simp only [checkBuiltinCall, F.newKind, F.newSplit, F.newRow]
  repeat (first | refine wpAny_loadPart_at hC ?_ | (refine wpAny_isSubtype_exc hC ?_; rw [hB]) | refine wpAny_staticBase_exc hC ?_ | refine wpAny_madeBy_exc hC ?_ | simp only [bne_self_eq_false, Bool.false_eq_true, if_false] | wp_step)
  exact hq
theorem kw_new (F : ExcBaseFacts B newId initId bmB) (hT : ∀ X : String, bm.contains (.type X) = bmB.contains (.type X))
    (hC : h.get? C = some (excClassObj nm q C N bs bm hdct sn sub ab col dd k0 k1 k2 k3 k5 newId))
    (hq : R (.ok (.ret (.ref (h.objs.size + 1)))) ⟨(h.push (PySem.W.kdv_tup [])).push (excO C h.objs.size), g, d, t, os⟩) :
    codeAny (model prog w) A (.builtin newId ⟨[.ref C], kw⟩) R ⟨h, g, d, t, os⟩ := by
  have hends := F.ends
  have hB : (Value.ref C :: bm).contains (.type B) = true := by rw [List.contains_cons, hT, F.hasB, Bool.or_true]
  have hA : (Value.ref C :: bm).contains (.type "AttributeError") = false := by rw [List.contains_cons, hT, F.noAttr]; rfl
  have hN : (Value.ref C :: bm).contains (.type "NameError") = false := by rw [List.contains_cons, hT, F.noName]; rfl
  refine codeAny_builtinAt F.entry ?_
  unfold Builtin.«BaseException.__new__»
  refine wpAt_bind ?_
  show wpAt _ _ _ (stack >>= _) _ _ _
  refine wpAt_bind (wpAt_stack fun p below => wpAt_of_wpAny ?_)
  wp_walk
  refine wpAt_of_wpAny ?_
  rw [F.owner]
  repeat (first | with_reducible refine wpAny_madeHere_exc F.canon hC ?_ | with_reducible refine wpAny_loadPart_at hC ?_ | (with_reducible refine wpAny_isSubtype_exc hC ?_; first | rw [hB] | rw [hA] | rw [hN]) | wp_step)
  show R _ _
  rw [Heap.size_push]
  exact hq
theorem kw_make (F : ExcBaseFacts B newId initId bmB) (hT : ∀ X : String, bm.contains (.type X) = bmB.contains (.type X)) {fI : Addr} {Q : Fin → Shared → Prop}
    (hC : h.get? C = some (excClassObj nm q C N bs bm hdct sn sub ab col dd k0 k1 k2 k3 k5 newId))
    (hi : W.Looks (model prog w) h (typeLookup (.ref C) "__init__") (some (.ref fI))) (hb : ∀ self, W.Looks (model prog w) h (bindSpecial (.ref fI) self) (.ref fI, [self]))
    (hq : codeAny (model prog w) A (.call (.ref fI) ⟨[.ref (h.objs.size + 1)], kw⟩)
      (fun r s' => match r with | .ok (.ret v) => v = .none ∧ Q (.done (.ret (.ref (h.objs.size + 1)))) s' | .ok _ => False | .error e => E e s')
      ⟨(h.push (W.kdv_tup [])).push (excO C h.objs.size), g, d, t, os⟩) :
    wpAny (model prog w) A (Builtin.«type.__call__» ⟨[.ref C], kw⟩) Q E ⟨h, g, d, t, os⟩ := by
  repeat (first | with_reducible refine wpAny_loadPart_at hC ?_ | with_reducible refine wpAny_madeBy_exc hC ?_ | wp_step)
  refine codeAny_call_builtin_code (Code.quiet_builtin _ F.quiet) (kw_new_check F hT hC ?_)
  refine kw_new F hT hC ?_
  show wpAny _ _ _ _ _ _
  have k : ∀ b o, h.get? b = some o → ((h.push (W.kdv_tup [])).push (excO C h.objs.size)).get? b = some o := fun b o e => Heap.get?_push_of_some _ (Heap.get?_push_of_some _ e)
  have hC1 := k _ _ hC
  have hx : ((h.push (W.kdv_tup [])).push (excO C h.objs.size)).get? (h.objs.size + 1) = some (excO C h.objs.size) := by heap_get
  have hs : (Value.ref C :: bm).contains (.ref C) = true := by simp
  have i1 := hi.keeps k
  have b1 := (hb (.ref (h.objs.size + 1))).keeps k
  unfold isInstance
  repeat (first | with_reducible refine wpAny_loadPart_at hx ?_ | (with_reducible refine wpAny_isSubtype_exc hC1 ?_; rw [hs]) | wp_step)
  show wpAny _ _ (typeLookup (.ref C) _) _ _ _
  refine i1.at ?_
  refine wpAny_holding (wpAny_bind (b1.at ?_))
  refine wpAny_bind (wpAny_call (codeAny_mono hq fun r s' z => ?_))
  rcases r with e | (v | _ | _ | _) <;> first | exact z | exact z.elim | skip
  obtain ⟨rfl, z⟩ := z
  first
    | exact wpAny_pure (wpAny_pure z)
    | (wp_walk; exact z)
theorem kw_call_check {Q : Unit → Shared → Prop} (hC : h.get? C = some (excClassObj nm q C N bs bm hdct sn sub ab col dd k0 k1 k2 k3 k5 newId))
    (hq : Q () ⟨h, g, d, t, os⟩) : wpAny M A (checkBuiltinCall "type.__call__" ⟨[.ref C], kw⟩) Q E ⟨h, g, d, t, os⟩ := by
  have f3 := tc_sub
  have hY : (⟨h, g, d, t, os⟩ : Shared).TypeIs (.ref C) "type" := ⟨_, hC, rfl⟩
  simp only [checkBuiltinCall, tc_kind, tc_split]
  repeat (any_goals (first | assumption | with_reducible refine wpAny_loadPart_at hC ?_ | with_reducible refine wpAny_onRaise ?_ | with_reducible refine wpAny_map ?_ | wp_step))
theorem kw_call (F : ExcBaseFacts B newId initId bmB) (hT : ∀ X : String, bm.contains (.type X) = bmB.contains (.type X)) {fI : Addr}
    (hC : h.get? C = some (excClassObj nm q C N bs bm hdct sn sub ab col dd k0 k1 k2 k3 k5 newId))
    (hi : W.Looks (model prog w) h (typeLookup (.ref C) "__init__") (some (.ref fI))) (hb : ∀ self, W.Looks (model prog w) h (bindSpecial (.ref fI) self) (.ref fI, [self]))
    (hq : codeAny (model prog w) (A.under (.builtin "type.__call__" ⟨[.ref C], kw⟩)) (.call (.ref fI) ⟨[.ref (h.objs.size + 1)], kw⟩) (W.InitBack (h.objs.size + 1) R)
      ⟨(h.push (W.kdv_tup [])).push (excO C h.objs.size), g, d, t, os⟩) :
    codeAny (model prog w) A (.call (.ref C) ⟨[], kw⟩) R ⟨h, g, d, t, os⟩ := by
  have f1 := tc_lookup
  have f2 := tc_bind (.ref C)
  have hY : (⟨h, g, d, t, os⟩ : Shared).TypeIs (.ref C) "type" := ⟨_, hC, rfl⟩
  refine codeAny_of_tree ?_
  show wpAny _ _ (callAny (.ref C) _) _ _ _
  repeat (any_goals (first | assumption | with_reducible refine wpAny_loadPart_at hC ?_ | wp_step))
  refine ⟨rfl, ?_⟩
  refine codeAny_call_builtin_at (Code.quiet_builtin _ (by decide +kernel)) entry_typeCall (kw_call_check hC (kw_make F hT hC hi hb ?_))
  refine codeAny_mono hq fun r s' z => ?_
  rcases r with e | (v | _ | _ | _) <;> exact z
end
end ExS
set_option Elab.async false
set_option linter.all false
set_option maxRecDepth 100000
set_option maxHeartbeats 4000000
namespace ExS
open PySem PySem.Spec PyProof.Rows L2
theorem pmk_billK {X : Cx} {x : Str} {C : Addr} {kw : Keyword} {te : TE} {k : Nat} {p pos : Pos} (T : BillX X.prog X.K X.mg C x) (hr : Room (k + 1) X.A) (hg : Gl X x) (ha : PK X [kw] (tCons te tNil)) (hks : (backToKw pos (keywordEach [kw] X.env)).filterMap (·.1) = [("value" : Str)] := by rfl) (hall : (backToKw pos (keywordEach [kw] X.env)).all (·.1.isSome) = true := by rfl)
    (hdb : (x == ("__debug__" : Str)) = false := by decide) (hpl : ((backTo pos (starEach [] X.env)).any (·.1) || (backToKw pos (keywordEach [kw] X.env)).any (·.1.isNone)) = false := by rfl) :
    PMk X (.Call (.Name x p) [] [kw] pos) (tBill C te) := by
  intro pins s σ H Q I h
  obtain ⟨nm, qn, N, bs, bm, hdct, sn, sub, ab, col, dd, k0, k1, k2, k3, k5, hC, hbm⟩ := T.cls
  obtain ⟨fI, cdaI, ccI, DB, fB, cdaB, ccB, qI, qB, parI, parB, fdI, fdB, p0, p1, p2, p3, p4, p5, p6, p7, p8, r0, r1, r2, r3, r4, SI, SB, OI, ln, ln2, hpI, hpB, bI, bI0, bIk, bB, iC, tI⟩ := T.ex
  refine wpAny_Call_Name_kw (ld_glob I hg T.gC ?_ hdb)
  have h2 : tCons te tNil σ H (qBill C Q) := h
  refine PySem.W.callWith_KW0 (h₀ := X.base) I.ok.mod.kin T.kC hall (thn (ha.run pos pins s σ H (qBill C Q) I h2) fun us s1 ⟨vs, H1, I1, rr, q0⟩ => ⟨I1.kIn, ?_⟩) hpl
  rw [hks]
  obtain ⟨v, rfl, q1⟩ := q0
  obtain ⟨u, rfl, ru⟩ := vals1 rr
  obtain ⟨hp, g, dr, tk, os⟩ := s1
  obtain ⟨mb, gb, eb⟩ := I1.mod.blt
  have B : Bs X.K X.mg mb X.base := ⟨I1.mod.kin, I1.mod.glob, gb, T.sup, (eb "super" (by decide)).trans (by decide +kernel), I1.mod.nolimit⟩
  have hn : H1 (hp.objs.size + 1) = none := I1.hok.fresh (Nat.le_succ _)
  have kk : ∀ b o, hp.get? b = some o → ((hp.push (PySem.W.kdv_tup [])).push (PySem.HandSPX.excO C hp.objs.size)).get? b = some o := fun b o e => Heap.get?_push_of_some _ (Heap.get?_push_of_some _ e)
  have hget : ((hp.push (PySem.W.kdv_tup [])).push (PySem.HandSPX.excO C hp.objs.size)).get? (hp.objs.size + 1) = some (PySem.HandSPX.excO C hp.objs.size) := by heap_get
  have x0 : X.base.get? (hp.objs.size + 1) = none := by
    cases e : X.base.get? (hp.objs.size + 1) with
    | none => rfl
    | some o =>
      have := Heap.lt_size (I1.bk _ _ e)
      exact absurd this (by show ¬ hp.objs.size + 1 < hp.objs.size; omega)
  have hsz2 : ((hp.push (PySem.W.kdv_tup [])).push (PySem.HandSPX.excO C hp.objs.size)).objs.size = hp.objs.size + 2 := by rw [Heap.size_push, Heap.size_push]
  show wpAny _ _ (call (.ref C) [] [(("value" : Str), u)]) _ _ _
  refine wpAny_call (kw_call F.excBase_ValueError (fun Y => PySem.HandSPX.refsVE_contains Y bm hbm) (I1.kIn _ _ hC) (PySem.W.looks_findIn I1.kIn iC) (fun self => PySem.W.bind_fn I1.kIn self tI) ?_)
  have room : (X.A.under (.builtin "type.__call__" ⟨[.ref C], [(("value" : Str), u)]⟩)).depth + 1 < recursionLimit := by
    have := (hr.make C [] [(("value" : Str), u)]).dp
    omega
  refine call_init B (fun b o e => kk b o (I1.bk b o e)) x0 SI SB T.ns OI ln ln2 room hget hpI hpB (bIk _ _) (bB _) (fun h' tk' t1 dx k5' sz dne hx5 hn5 => ?_)
  refine ⟨rfl, ?_⟩
  rw [hsz2] at sz
  obtain ⟨G, g1, g2⟩ := restrict h' fun b => decide (b ≠ hp.objs.size + 1)
  have gk : ∀ b, b ≠ hp.objs.size + 1 → G.get? b = h'.get? b := fun b hb => g1 b (decide_eq_true hb)
  have ge : G.get? (hp.objs.size + 1) = none := g2 _ (by simp)
  have keepG : ∀ b o, hp.get? b = some o → G.get? b = some o := fun b o e => by
    have hb : b ≠ hp.objs.size + 1 := Nat.ne_of_lt (Nat.lt_succ_of_lt (Heap.lt_size e))
    rw [gk b hb]
    exact k5' b o hb (kk b o e)
  have hd1 : H1 dx = none := I1.hok.fresh (Nat.le_trans (Nat.le_add_right hp.objs.size 2) sz)
  have J : Inv X pins σ (upd H1 dx (.xd [("value", v)])) ⟨G, g, dr, tk', os⟩ := I1.laid (t' := tk') (a := dx) (o := .xd [("value", v)]) (h' := G) keepG (Nat.le_trans (Nat.le_add_right hp.objs.size 2) sz)
    ⟨_, hn5.at fun o y => (gk dx dne).trans y, relO_put (fs := []) (mA := fun _ => none) ru fun g => True.intro⟩
  refine ⟨hp.objs.size + 1, _, _, ⟨G, g, dr, tk', os⟩, upd H1 dx (.xd [("value", v)]), .ref C, some dx, rfl, J, fun b o e => ?_, ge, hx5, ⟨rfl, rfl⟩, rfl, rfl, ?_, rfl, I1.bare, raises_own T.exC T.tyC, q1 dx hd1⟩
  · by_cases hb : b = hp.objs.size + 1
    · rw [hb, ge] at e
      cases e
    · exact (gk b hb).symm.trans e
  · rw [upd_ne dne.symm]
    exact hn

/-- InvalidX() and InvalidX(value=e) as values -/
theorem pe_bill0 {X : Cx} {x : Str} {C : Addr} {k : Nat} {p pos : Pos} (T : BillX X.prog X.K X.mg C x) (hr : Room (k + 1) X.A) (hg : Gl X x) (hdb : (x == ("__debug__" : Str)) = false := by decide) :
    PE X (.Call (.Name x p) [] [] pos) (tMade (fun _ H Q => ∀ d, H d = none → Q (.ref C) (some d) (upd H d (.xd [("value", .non)])))) := pe_made (pmk_bill0 T hr hg hdb)
end ExS
set_option Elab.async false
set_option linter.all false
set_option maxRecDepth 100000
set_option maxHeartbeats 4000000
/-! facts of exception classes, from the written part -/
namespace Cb
open PySem PySem.Spec PyProof.Rows L2 ExS
theorem kit_ref {K : PySem.W.Frag} {t : Value} {C : Addr} {b : Bool} (ne : (t == Value.ref C) = false) (hdct : PySem.W.hasDictIn K C = true) (ht : PySem.W.typeIn K (.ref C) = some (.type "type")) (h : PySem.W.subIn K t (.ref C) = some b) : PySem.W.kitOne K t (.ref C) = some b := by
  obtain ⟨cd, hc, _⟩ := PySem.W.any_some hdct
  have e2 : ((PySem.W.clsIn K C).isSome && PySem.W.typeIn K (.ref C) == some (.type "type")) = true := by rw [hc, ht] <;> rfl
  show (if (t == Value.ref C) = true then some true else (if ((PySem.W.clsIn K C).isSome && PySem.W.typeIn K (.ref C) == some (.type "type")) = true then PySem.W.subIn K t (.ref C) else none)) = some b
  rw [if_neg (by rw [ne]; decide), if_pos e2]
  exact h
theorem kit_self {K : PySem.W.Frag} {t : Value} (e : (t == t) = true) : PySem.W.kitOne K t t = some true := by
  show (if (t == t) = true then some true else PySem.W.kitCls K t t) = some true
  rw [if_pos e]
theorem bill_mk {P : Program} {K : PySem.W.Frag} {mg : Str → Option Value} {h : Heap} {x : Str} (X : K.In h) (G : h.Ns mainGlobals mg) {T C fI cdaI ccI DB fB cdaB ccB N : Addr} {nm q qI qB nI nB fiI fiB : Str} {bs bm sub : List Value} {hdct ab : Bool} {sn : List Str} {col : Option Bool} {dd odI anI odB anB cdI cdB clI clB : Option Addr}
    {k0 k1 k2 k3 k5 : Option Value} {kVI docI pmI ctI dVB kVB docB pmB ctB cI cB uI uB : Value} {oslI oslB csI csB slI slB : Array (Option Value)} {vI vB : Array Value} {tI tB : Tok} {cT : Value} {dT : Option Addr} {itsT : Array Value} {nT : Nat} {slT : Array (Option Value)} {cdC cdD : ClassData} {parI parB : Arguments} {p0 p1 p2 p3 p4 p5 p6 p7 p8 r0 r1 r2 r3 r4 : Pos}
    (a : PySem.W.nsIn K mainGlobals x = some (some (.ref C)))
    (cls : K.lookup C = some (excClassObj nm q C N bs bm hdct sn sub ab col dd k0 k1 k2 k3 k5 "ValueError.__new__")) (ve : PySem.HandSPX.refsVE bm = true)
    (iC : PySem.W.findIn K (.ref C) "__init__" = some (some (.ref fI))) (tf : PySem.W.typeIn K (.ref fI) = some (.type "function"))
    (lI : K.lookup fI = some ⟨.type "function", odI, .func (PySem.W.ksFn nI qI parI [bSup p0 p1 p2 p3 p4, bVal p5 p6 p7 p8] scI (.ref T) kVI docI pmI anI (.ref cdaI) ctI ccI), oslI⟩) (coI : PySem.W.codeIn K (.ref cdaI) qI = true)
    (lcI : K.lookup cdaI = some ⟨cI, cdI, .fields vI, csI⟩) (vI2 : vI[2]? = some (.str fiI tI)) (feI : ((P.main.file : Str) == fiI) = true) (ceI : K.lookup ccI = some ⟨uI, clI, .cell (some (.ref C)), slI⟩) (clC : PySem.W.clsIn K C = some cdC)
    (iB : PySem.W.ks_superIn K C C "__init__" = some (some (.ref fB)))
    (lB : K.lookup fB = some ⟨.type "function", odB, .func (PySem.W.ksFn nB qB parB [bSup r0 r1 r2 r3 r4] scB dVB kVB docB pmB anB (.ref cdaB) ctB ccB), oslB⟩) (coB : PySem.W.codeIn K (.ref cdaB) qB = true)
    (lcB : K.lookup cdaB = some ⟨cB, cdB, .fields vB, csB⟩) (vB2 : vB[2]? = some (.str fiB tB)) (feB : ((P.main.file : Str) == fiB) = true) (ceB : K.lookup ccB = some ⟨uB, clB, .cell (some (.ref DB)), slB⟩) (clD : PySem.W.clsIn K DB = some cdD)
    (tp : PySem.W.nsIn K cStatics "thirdparty.any" = some none) (sB : PySem.W.mroIn K C (.ref DB) = some true) (sC : PySem.W.mroIn K C (.ref C) = some true) (iV : PySem.W.ks_superIn K C DB "__init__" = some (some (.builtin "ValueError.__init__"))) (sV : PySem.W.subIn K (.ref C) (.type "ValueError") = some true)
    (fn : PySem.W.fnIn K fB = true) (mv : PySem.HandSPX.refsVE cdC.mro = true) (md : cdC.hasDict = true) (sa : PySem.W.findIn K (.ref C) "__setattr__" = some (some (.builtin "object.__setattr__"))) (nV : PySem.W.findIn K (.ref C) "value" = some none)
    (ln : Line p0 p1 p2 p3) (ln2 : Line r0 r1 r2 r3) (hI : (parI.posonlyargs ++ parI.args).head?.map (·.arg) = some ("self" : Str)) (hB : (parB.posonlyargs ++ parB.args).head?.map (·.arg) = some ("self" : Str))
    (lT : K.lookup T = some ⟨cT, dT, .seq itsT nT, slT⟩) (bI : ∀ (a : Addr) (v : Value), ∃ k, bindArgs (PySem.W.ksFn nI qI parI [bSup p0 p1 p2 p3 p4, bVal p5 p6 p7 p8] scI (.ref T) kVI docI pmI anI (.ref cdaI) ctI ccI) ⟨[.ref a, v], []⟩ = seqItems? (.ref T) >>= k ∧ k (some itsT) = pure [(("self" : Str), Value.ref a), (("value" : Str), v)])
    (bI0 : ∀ a : Addr, ∃ k, bindArgs (PySem.W.ksFn nI qI parI [bSup p0 p1 p2 p3 p4, bVal p5 p6 p7 p8] scI (.ref T) kVI docI pmI anI (.ref cdaI) ctI ccI) ⟨[.ref a], []⟩ = seqItems? (.ref T) >>= k ∧ k (some itsT) = pure [(("self" : Str), Value.ref a), (("value" : Str), Value.none)])
    (bIk : ∀ (a : Addr) (v : Value), ∃ k, bindArgs (PySem.W.ksFn nI qI parI [bSup p0 p1 p2 p3 p4, bVal p5 p6 p7 p8] scI (.ref T) kVI docI pmI anI (.ref cdaI) ctI ccI) ⟨[.ref a], [(("value" : Str), v)]⟩ = seqItems? (.ref T) >>= k ∧ k (some itsT) = pure [(("self" : Str), Value.ref a), (("value" : Str), v)])
    (bB : ∀ a : Addr, bindArgs (PySem.W.ksFn nB qB parB [bSup r0 r1 r2 r3 r4] scB dVB kVB docB pmB anB (.ref cdaB) ctB ccB) ⟨[.ref a], []⟩ = pure [(("self" : Str), Value.ref a)])
    (ns : NoSup P) (su : PySem.W.nsIn K mainGlobals "super" = some none) (kC : PySem.W.keepIn K (.ref C) = true) (exC : PySem.W.subIn K (.ref C) (.type "BaseException") = some true) (tyC : PySem.W.typeIn K (.ref C) = some (.type "type")) : BillX P K mg C x where
  ex := ⟨fI, cdaI, ccI, DB, fB, cdaB, ccB, qI, qB, parI, parB, _, _, p0, p1, p2, p3, p4, p5, p6, p7, p8, r0, r1, r2, r3, r4,
    ⟨⟨nI, .ref T, kVI, docI, pmI, ctI, odI, anI, oslI, rfl, lI⟩, coI, ⟨cI, cdI, vI, csI, fiI, tI, lcI, vI2, feI⟩, ⟨uI, clI, slI, ceI⟩, ⟨cdC, clC⟩⟩,
    ⟨⟨nB, dVB, kVB, docB, pmB, ctB, odB, anB, oslB, rfl, lB⟩, coB, ⟨cB, cdB, vB, csB, fiB, tB, lcB, vB2, feB⟩, ⟨uB, clB, slB, ceB⟩, ⟨cdD, clD⟩⟩,
    ⟨⟨⟨nm, q, N, bs, bm, hdct, sn, sub, ab, col, dd, k0, k1, k2, k3, k5, cls⟩, ⟨cdC, clC⟩, tp, sB, iV, sV⟩, iB, sC, fn, ⟨cdC, clC, mv, md⟩, sa, nV⟩, ln, ln2, hI, hB, fun a v s hs => (bI a v).elim fun k h => BindsTo.of_defaults rfl (hs _ _ lT) rfl h.1 h.2, fun a s hs => (bI0 a).elim fun k h => BindsTo.of_defaults rfl (hs _ _ lT) rfl h.1 h.2, fun a v s hs => (bIk a v).elim fun k h => BindsTo.of_defaults rfl (hs _ _ lT) rfl h.1 h.2, bB, iC, tf⟩
  cls := ⟨nm, q, N, bs, bm, hdct, sn, sub, ab, col, dd, k0, k1, k2, k3, k5, cls, ve⟩
  ns := ns
  sup := PySem.W.mg_none_of X G su
  gC := PySem.W.mg_of X G a
  kC := kC
  exC := exC
  tyC := tyC
end Cb
set_option Elab.async false
set_option linter.all false
set_option maxRecDepth 100000
set_option maxHeartbeats 4000000
/-! An exception class of the program with no __init__ of its own, over one whose __init__ says super().__init__(). -/
namespace ExS
open PySem PySem.Spec PyProof.Rows L2
structure BareX (P : Program) (K : PySem.W.Frag) (mg : Str → Option Value) (C : Addr) (x : Str) : Prop where
  ex : ∃ (DB fB cdaB ccB : Addr) (qB : Str) (parB : Arguments) (fdB : FuncData) (r0 r1 r2 r3 r4 : Pos), SupFn K P fB DB cdaB ccB qB parB [bSup r0 r1 r2 r3 r4] scB fdB ∧ OwnC K C DB fB ∧ Line r0 r1 r2 r3 ∧
    (parB.posonlyargs ++ parB.args).head?.map (·.arg) = some ("self" : Str) ∧ (∀ a : Addr, bindArgs fdB ⟨[.ref a], []⟩ = pure [(("self" : Str), Value.ref a)]) ∧
    PySem.W.findIn K (.ref C) "__init__" = some (some (.ref fB)) ∧ PySem.W.typeIn K (.ref fB) = some (.type "function")
  cls : ∃ nm q N bs bm hdct sn sub ab col dd k0 k1 k2 k3 k5, K.lookup C = some (excClassObj nm q C N bs bm hdct sn sub ab col dd k0 k1 k2 k3 k5 "ValueError.__new__") ∧ PySem.HandSPX.refsVE bm = true
  ns : NoSup P
  sup : mg "super" = none
  gC : mg x = some (.ref C)
  kC : PySem.W.keepIn K (.ref C) = true
  exC : PySem.W.subIn K (.ref C) (.type "BaseException") = some true
  tyC : PySem.W.typeIn K (.ref C) = some (.type "type")
theorem pmk_bare {X : Cx} {x : Str} {C : Addr} {k : Nat} {p pos : Pos} (T : BareX X.prog X.K X.mg C x) (hr : Room (k + 1) X.A) (hg : Gl X x)
    (hdb : (x == ("__debug__" : Str)) = false := by decide)  :
    PMk X (.Call (.Name x p) [] [] pos) (fun _ H Q => Q (.ref C) none H) := by
  intro pins s σ H Q I h
  obtain ⟨nm, qn, N, bs, bm, hdct, sn, sub, ab, col, dd, k0, k1, k2, k3, k5, hC, hbm⟩ := T.cls
  obtain ⟨DB, fB, cdaB, ccB, qB, parB, fdB, r0, r1, r2, r3, r4, SB, OC, ln2, hpB, bB, iC, tI⟩ := T.ex
  refine wpAny_Call_Name_kw (ld_glob I hg T.gC ?_ hdb)
  refine PySem.W.callWith_K0 I.kIn T.kC ?_
  show wpAny _ _ (call (.ref C) []) _ _ _
  obtain ⟨hp, g, dr, tk, os⟩ := s
  obtain ⟨mb, gb, eb⟩ := I.mod.blt
  have B : Bs X.K X.mg mb X.base := ⟨I.mod.kin, I.mod.glob, gb, T.sup, (eb "super" (by decide)).trans (by decide +kernel), I.mod.nolimit⟩
  have hn : H (hp.objs.size + 1) = none := I.hok.fresh (Nat.le_succ _)
  have kk : ∀ b o, hp.get? b = some o → ((hp.push (PySem.W.kdv_tup [])).push (PySem.HandSPX.excO C hp.objs.size)).get? b = some o := fun b o e => Heap.get?_push_of_some _ (Heap.get?_push_of_some _ e)
  have hget : ((hp.push (PySem.W.kdv_tup [])).push (PySem.HandSPX.excO C hp.objs.size)).get? (hp.objs.size + 1) = some (PySem.HandSPX.excO C hp.objs.size) := by heap_get
  refine wpAny_call (PySem.HandSPX.call_own F.excBase_ValueError (fun Y => PySem.HandSPX.refsVE_contains Y bm hbm) (I.kIn _ _ hC) (PySem.W.looks_findIn I.kIn iC) (fun self => PySem.W.bind_fn I.kIn self tI) (by show 0 ≤ sizeLine; decide) ?_)
  have room : (X.A.under (.builtin "type.__call__" ⟨.ref C :: [], []⟩)).depth + 1 < recursionLimit := by
    have := (hr.make C [] []).dp
    omega
  refine call_base B (fun b o e => kk b o (I.bk b o e)) SB T.ns OC ln2 (by omega) hget hpB (bB _) (fun h' tk' t1 k5' hx5 => ?_)
  refine ⟨rfl, ?_⟩
  obtain ⟨G, g1, g2⟩ := restrict h' fun b => decide (b ≠ hp.objs.size + 1)
  have gk : ∀ b, b ≠ hp.objs.size + 1 → G.get? b = h'.get? b := fun b hb => g1 b (decide_eq_true hb)
  have ge : G.get? (hp.objs.size + 1) = none := g2 _ (by simp)
  have keepG : ∀ b o, hp.get? b = some o → G.get? b = some o := fun b o e => by
    have hb : b ≠ hp.objs.size + 1 := Nat.ne_of_lt (Nat.lt_succ_of_lt (Heap.lt_size e))
    rw [gk b hb]
    exact k5' b o hb (kk b o e)
  have J : Inv X pins σ H ⟨G, g, dr, tk', os⟩ := L2.Inv.kept (t' := tk') I keepG
  refine ⟨hp.objs.size + 1, _, _, ⟨G, g, dr, tk', os⟩, H, .ref C, none, rfl, J, fun b o e => ?_, ge, hx5, ⟨rfl, rfl⟩, rfl, rfl, hn, rfl, I.bare, raises_own T.exC T.tyC, h⟩
  by_cases hb : b = hp.objs.size + 1
  · rw [hb, ge] at e
    cases e
  · exact (gk b hb).symm.trans e
theorem pe_bare {X : Cx} {x : Str} {C : Addr} {k : Nat} {p pos : Pos} (T : BareX X.prog X.K X.mg C x) (hr : Room (k + 1) X.A) (hg : Gl X x) (hdb : (x == ("__debug__" : Str)) = false := by decide) :
    PE X (.Call (.Name x p) [] [] pos) (tMade (fun _ H Q => Q (.ref C) none H)) := pe_made (pmk_bare T hr hg hdb)
/-- isinstance(x, c): of whatever, also of an exception that is kept, with a dict or with none -/
def rIsY (K : PySem.W.Frag) : List V → Hp → VK → Prop := fun xs H Q => rIsX K xs H Q ∨
  ∃ (a D : Addr) (c : V) (cv : Value) (b : Bool), xs = [.ref a, c] ∧ H a = some (ExK (.ref D) none a) ∧ ExcC K D ∧ ClsV c cv ∧ PySem.W.kitOne K (.ref D) cv = some b ∧ Q (.bl b) H
theorem call_isY {X : Cx} : CallR X (.builtin "isinstance") (rIsY X.K) := by
  intro pins s σ H xs us Q I r h
  rcases h with h | ⟨a, D, c, cv, b, rfl, ea, C, hcv, e, q⟩
  · exact call_isX pins s σ H xs us Q I r h
  · obtain ⟨u1, u2, rfl, r1, r2⟩ := vals2 r
    cases r1
    have e2 := hcv.eq r2
    subst e2
    obtain ⟨oe, vs, ha, hz, hd⟩ := exK_at I.hok ea
    have J : PySem.W.InstAt s.heap a oe D none := ⟨ha, hz.1, by unfold PySem.W.notCls; rw [hd] <;> rfl, by rw [hz.2]; trivial⟩
    have hcl : (PySem.W.clsIn X.K D).isSome = true := by
      obtain ⟨cd, hc, _⟩ := PySem.W.any_some C.hd
      rw [hc]
      rfl
    exact PySem.W.kia_one (PySem.W.kitx_exc hcl C.hg C.hk C.hs C.ha C.hn C.ht C.hm) I.kIn J e (fun z => nomatch z) fun tk => ⟨.bl b, H, L2.Inv.kept (t' := tk) I fun _ _ z => z, rfl, q⟩
end ExS
set_option Elab.async false
set_option linter.all false
set_option maxRecDepth 100000
set_option maxHeartbeats 8000000
namespace Cb
open PySem PySem.Spec PyProof.Rows L2 ExS
abbrev s_l_first : Stmt := topS 24
abbrev s_l_second : Stmt := topS 25
abbrev s_l_flags : Stmt := topS 26
theorem sc_l_first : FnScope ["_law_which", "_law_value"] ["_law_which", "_law_value"] (defScope s_l_first) := ⟨rfl, rfl, rfl, by decide +kernel, rfl, by decide +kernel, by decide +kernel⟩
theorem sc_l_second : FnScope ["_law_which", "_law_value"] ["_law_which", "_law_value"] (defScope s_l_second) := ⟨rfl, rfl, rfl, by decide +kernel, rfl, by decide +kernel, by decide +kernel⟩
theorem sc_l_flags : FnScope ["_law_error", "_law_found"] ["_law_error"] (defScope s_l_flags) := ⟨rfl, rfl, rfl, by decide +kernel, rfl, by decide +kernel, by decide +kernel⟩
def cs (a0 a1 a2 a3 a4 a5 a6 a7 a8 a9 a10 a11 a12 a13 a14 a15 a16 : Addr) : Nat → Addr := fun i => [a0, a1, a2, a3, a4, a5, a6, a7, a8, a9, a10, a11, a12, a13, a14, a15, a16].getD i 0
structure TX (P : Program) (K : PySem.W.Frag) (mg : Str → Option Value) (a0 a1 a2 a3 a4 a5 a6 a7 a8 a9 a10 a11 a12 a13 a14 a15 a16 CB : Addr) : Prop where
  tg : TGen K mg
  d_l_first : Has K mg "_law_first" s_l_first ["_law_which", "_law_value"]
  d_l_second : Has K mg "_law_second" s_l_second ["_law_which", "_law_value"]
  d_l_flags : Has K mg "_law_flags" s_l_flags ["_law_error"]
  b_isinstance : mg "isinstance" = none
  b_VE : mg "ValueError" = none
  b_list : mg "list" = none
  b0 : BillX P K mg a0 "InvalidNumber"
  b1 : BillX P K mg a1 "InvalidKind"
  b2 : BillX P K mg a2 "InvalidValue"
  b3 : BillX P K mg a3 "InvalidProgram"
  b4 : BillX P K mg a4 "InvalidName"
  b5 : BillX P K mg a5 "InvalidBill"
  b6 : BillX P K mg a6 "InvalidPaper"
  b7 : BillX P K mg a7 "InvalidRows"
  b8 : BillX P K mg a8 "InvalidText"
  b9 : BillX P K mg a9 "InvalidUnit"
  b10 : BillX P K mg a10 "InvalidList"
  b11 : BillX P K mg a11 "InvalidDeed"
  b12 : BillX P K mg a12 "InvalidFlag"
  b13 : BillX P K mg a13 "Unlike"
  b14 : BillX P K mg a14 "TooMany"
  b15 : BareX P K mg a15 "NothingToUndo"
  b16 : BareX P K mg a16 "NothingToRedo"
  bB : BareX P K mg CB "BillError"
  kit : ∀ i j, i < 17 → j < 17 → PySem.W.kitOne K (.ref (cs a0 a1 a2 a3 a4 a5 a6 a7 a8 a9 a10 a11 a12 a13 a14 a15 a16 i)) (.ref (cs a0 a1 a2 a3 a4 a5 a6 a7 a8 a9 a10 a11 a12 a13 a14 a15 a16 j)) = some (decide (i = j))
  kitB : ∀ i, i < 17 → PySem.W.kitOne K (.ref (cs a0 a1 a2 a3 a4 a5 a6 a7 a8 a9 a10 a11 a12 a13 a14 a15 a16 i)) (.ref CB) = some true
  kitV : ∀ i, i < 17 → PySem.W.kitOne K (.ref (cs a0 a1 a2 a3 a4 a5 a6 a7 a8 a9 a10 a11 a12 a13 a14 a15 a16 i)) (.type "ValueError") = some true
  exc : ∀ i, i < 17 → ExcC K (cs a0 a1 a2 a3 a4 a5 a6 a7 a8 a9 a10 a11 a12 a13 a14 a15 a16 i)
  xfc : ∀ i, i < 15 → XfC K (cs a0 a1 a2 a3 a4 a5 a6 a7 a8 a9 a10 a11 a12 a13 a14 a15 a16 i) ∧ PySem.W.findIn K (.ref (cs a0 a1 a2 a3 a4 a5 a6 a7 a8 a9 a10 a11 a12 a13 a14 a15 a16 i)) "value" = some none
  excB : ExcC K CB
  kitBV : PySem.W.kitOne K (.ref CB) (.type "ValueError") = some true
/-- an exception that is kept, with a dict or with none -/
def Kp (K : PySem.W.Frag) (H : Hp) (a C : Addr) : Prop := ExcC K C ∧ (H a = some (ExK (.ref C) none a) ∨ ∃ dx fs, H a = some (ExK (.ref C) (some dx) a) ∧ H dx = some (.xd fs))
theorem Kp.same {K : PySem.W.Frag} {H H' : Hp} {a C : Addr} (k : Kp K H a C) (s : Same H H') : Kp K H' a C := ⟨k.1, k.2.elim (fun e => .inl (s _ _ e)) fun ⟨dx, fs, e, f⟩ => .inr ⟨dx, fs, s _ _ e, s _ _ f⟩⟩
theorem isin {K : PySem.W.Frag} {H : Hp} {Q : VK} {a C : Addr} {c : V} {cv : Value} {b : Bool} (k : Kp K H a C) (hc : ClsV c cv) (e : PySem.W.kitOne K (.ref C) cv = some b) (q : Q (.bl b) H) : rIsY K [.ref a, c] H Q := by
  obtain ⟨ec, h | ⟨dx, fs, h, hd⟩⟩ := k
  · exact .inr ⟨a, C, c, cv, b, rfl, h, ec, hc, e, q⟩
  · exact .inl (.inr ⟨a, C, dx, fs, c, cv, b, rfl, h, hd, ec, hc, e, q⟩)
def fl17 (i : Nat) : List V := [.bl (decide (i = 0)), .bl (decide (i = 1)), .bl (decide (i = 2)), .bl (decide (i = 3)), .bl (decide (i = 4)), .bl (decide (i = 5)), .bl (decide (i = 6)), .bl (decide (i = 7)), .bl (decide (i = 8)), .bl (decide (i = 9)), .bl (decide (i = 10)), .bl (decide (i = 11)), .bl (decide (i = 12)), .bl (decide (i = 13)), .bl (decide (i = 14)), .bl (decide (i = 15)), .bl (decide (i = 16))]
section
variable {P : Program} {w : World} {K : PySem.W.Frag} {mg : Str → Option Value} {base : Heap} {a0 a1 a2 a3 a4 a5 a6 a7 a8 a9 a10 a11 a12 a13 a14 a15 a16 CB : Addr}
def sp_first (lo hi : Nat) (c : Nat → Addr) : Sp := fun vs H Q _ => ∃ (i : Nat) (v : V), vs = [.int (i : Int), v] ∧ lo ≤ i ∧ i < hi ∧ ∀ (a d : Addr) (H' : Hp), Same H H' → H' a = some (ExK (.ref (c i)) (some d) a) → H' d = some (.xd [("value", v)]) → Q (.ref a) H' 
def sp_flags (K : PySem.W.Frag) (c : Nat → Addr) : Sp := fun vs H Q _ => ∃ (i : Nat) (a : Addr), vs = [.ref a] ∧ i < 17 ∧ Kp K H a (c i) ∧ ∀ (l : Addr) (H' : Hp), Same H H' → H' l = some (.lst (fl17 i)) → Q (.ref l) H' 
theorem c_l_first (T : TX P K mg a0 a1 a2 a3 a4 a5 a6 a7 a8 a9 a10 a11 a12 a13 a14 a15 a16 CB) : Says P w K mg base 2 "_law_first" ["_law_which", "_law_value"] (sp_first 0 8 (cs a0 a1 a2 a3 a4 a5 a6 a7 a8 a9 a10 a11 a12 a13 a14 a15 a16)) := by
  refine says T.d_l_first sc_l_first (fun vs H Q E h => ?_) (fun f cdv A outer s H vs Q E hr h => ?_)
  · obtain ⟨_, _, rfl, _⟩ := h; rfl
  refine ⟨_, (pss_cons (ps_if (pt_cmpR op_eq (pv 0) pe_int (nomark _)) (pss_one (ps_ret (pe_bill T.b0 hr rfl (pv 1)))) pss_nil) (pss_cons (ps_if (pt_cmpR op_eq (pv 0) pe_int (nomark _)) (pss_one (ps_ret (pe_bill T.b1 hr rfl (pv 1)))) pss_nil) (pss_cons (ps_if (pt_cmpR op_eq (pv 0) pe_int (nomark _)) (pss_one (ps_ret (pe_bill T.b2 hr rfl (pv 1)))) pss_nil) (pss_cons (ps_if (pt_cmpR op_eq (pv 0) pe_int (nomark _)) (pss_one (ps_ret (pe_bill T.b3 hr rfl (pv 1)))) pss_nil) (pss_cons (ps_if (pt_cmpR op_eq (pv 0) pe_int (nomark _)) (pss_one (ps_ret (pe_bill T.b4 hr rfl (pv 1)))) pss_nil) (pss_cons (ps_if (pt_cmpR op_eq (pv 0) pe_int (nomark _)) (pss_one (ps_ret (pe_bill T.b5 hr rfl (pv 1)))) pss_nil) (pss_cons (ps_if (pt_cmpR op_eq (pv 0) pe_int (nomark _)) (pss_one (ps_ret (pe_bill T.b6 hr rfl (pv 1)))) pss_nil) (pss_cons (ps_if (pt_cmpR op_eq (pv 0) pe_int (nomark _)) (pss_one (ps_ret (pe_bill T.b7 hr rfl (pv 1)))) pss_nil) (pss_one (ps_ret pe_non)))))))))), ?_⟩
  obtain ⟨i, v, rfl, h0, h1, q⟩ := h
  obtain rfl | rfl | rfl | rfl | rfl | rfl | rfl | rfl : i = 0 ∨ i = 1 ∨ i = 2 ∨ i = 3 ∨ i = 4 ∨ i = 5 ∨ i = 6 ∨ i = 7 := by omega
  · refine ⟨_, rfl, rfl, _, rfl, iteT ?_⟩
    refine ⟨_, rfl, _, rfl, fun d hd a ha => ?_⟩
    exact q a d _ ((same_new hd).trans (same_new ha)) upd_same (same_new ha _ _ upd_same)
  · refine ⟨_, rfl, rfl, _, rfl, iteF ?_⟩
    refine ⟨_, rfl, rfl, _, rfl, iteT ?_⟩
    refine ⟨_, rfl, _, rfl, fun d hd a ha => ?_⟩
    exact q a d _ ((same_new hd).trans (same_new ha)) upd_same (same_new ha _ _ upd_same)
  · refine ⟨_, rfl, rfl, _, rfl, iteF ?_⟩
    refine ⟨_, rfl, rfl, _, rfl, iteF ?_⟩
    refine ⟨_, rfl, rfl, _, rfl, iteT ?_⟩
    refine ⟨_, rfl, _, rfl, fun d hd a ha => ?_⟩
    exact q a d _ ((same_new hd).trans (same_new ha)) upd_same (same_new ha _ _ upd_same)
  · refine ⟨_, rfl, rfl, _, rfl, iteF ?_⟩
    refine ⟨_, rfl, rfl, _, rfl, iteF ?_⟩
    refine ⟨_, rfl, rfl, _, rfl, iteF ?_⟩
    refine ⟨_, rfl, rfl, _, rfl, iteT ?_⟩
    refine ⟨_, rfl, _, rfl, fun d hd a ha => ?_⟩
    exact q a d _ ((same_new hd).trans (same_new ha)) upd_same (same_new ha _ _ upd_same)
  · refine ⟨_, rfl, rfl, _, rfl, iteF ?_⟩
    refine ⟨_, rfl, rfl, _, rfl, iteF ?_⟩
    refine ⟨_, rfl, rfl, _, rfl, iteF ?_⟩
    refine ⟨_, rfl, rfl, _, rfl, iteF ?_⟩
    refine ⟨_, rfl, rfl, _, rfl, iteT ?_⟩
    refine ⟨_, rfl, _, rfl, fun d hd a ha => ?_⟩
    exact q a d _ ((same_new hd).trans (same_new ha)) upd_same (same_new ha _ _ upd_same)
  · refine ⟨_, rfl, rfl, _, rfl, iteF ?_⟩
    refine ⟨_, rfl, rfl, _, rfl, iteF ?_⟩
    refine ⟨_, rfl, rfl, _, rfl, iteF ?_⟩
    refine ⟨_, rfl, rfl, _, rfl, iteF ?_⟩
    refine ⟨_, rfl, rfl, _, rfl, iteF ?_⟩
    refine ⟨_, rfl, rfl, _, rfl, iteT ?_⟩
    refine ⟨_, rfl, _, rfl, fun d hd a ha => ?_⟩
    exact q a d _ ((same_new hd).trans (same_new ha)) upd_same (same_new ha _ _ upd_same)
  · refine ⟨_, rfl, rfl, _, rfl, iteF ?_⟩
    refine ⟨_, rfl, rfl, _, rfl, iteF ?_⟩
    refine ⟨_, rfl, rfl, _, rfl, iteF ?_⟩
    refine ⟨_, rfl, rfl, _, rfl, iteF ?_⟩
    refine ⟨_, rfl, rfl, _, rfl, iteF ?_⟩
    refine ⟨_, rfl, rfl, _, rfl, iteF ?_⟩
    refine ⟨_, rfl, rfl, _, rfl, iteT ?_⟩
    refine ⟨_, rfl, _, rfl, fun d hd a ha => ?_⟩
    exact q a d _ ((same_new hd).trans (same_new ha)) upd_same (same_new ha _ _ upd_same)
  · refine ⟨_, rfl, rfl, _, rfl, iteF ?_⟩
    refine ⟨_, rfl, rfl, _, rfl, iteF ?_⟩
    refine ⟨_, rfl, rfl, _, rfl, iteF ?_⟩
    refine ⟨_, rfl, rfl, _, rfl, iteF ?_⟩
    refine ⟨_, rfl, rfl, _, rfl, iteF ?_⟩
    refine ⟨_, rfl, rfl, _, rfl, iteF ?_⟩
    refine ⟨_, rfl, rfl, _, rfl, iteF ?_⟩
    refine ⟨_, rfl, rfl, _, rfl, iteT ?_⟩
    refine ⟨_, rfl, _, rfl, fun d hd a ha => ?_⟩
    exact q a d _ ((same_new hd).trans (same_new ha)) upd_same (same_new ha _ _ upd_same)
theorem c_l_second (T : TX P K mg a0 a1 a2 a3 a4 a5 a6 a7 a8 a9 a10 a11 a12 a13 a14 a15 a16 CB) : Says P w K mg base 2 "_law_second" ["_law_which", "_law_value"] (sp_first 8 15 (cs a0 a1 a2 a3 a4 a5 a6 a7 a8 a9 a10 a11 a12 a13 a14 a15 a16)) := by
  refine says T.d_l_second sc_l_second (fun vs H Q E h => ?_) (fun f cdv A outer s H vs Q E hr h => ?_)
  · obtain ⟨_, _, rfl, _⟩ := h; rfl
  refine ⟨_, (pss_cons (ps_if (pt_cmpR op_eq (pv 0) pe_int (nomark _)) (pss_one (ps_ret (pe_bill T.b8 hr rfl (pv 1)))) pss_nil) (pss_cons (ps_if (pt_cmpR op_eq (pv 0) pe_int (nomark _)) (pss_one (ps_ret (pe_bill T.b9 hr rfl (pv 1)))) pss_nil) (pss_cons (ps_if (pt_cmpR op_eq (pv 0) pe_int (nomark _)) (pss_one (ps_ret (pe_bill T.b10 hr rfl (pv 1)))) pss_nil) (pss_cons (ps_if (pt_cmpR op_eq (pv 0) pe_int (nomark _)) (pss_one (ps_ret (pe_bill T.b11 hr rfl (pv 1)))) pss_nil) (pss_cons (ps_if (pt_cmpR op_eq (pv 0) pe_int (nomark _)) (pss_one (ps_ret (pe_bill T.b12 hr rfl (pv 1)))) pss_nil) (pss_cons (ps_if (pt_cmpR op_eq (pv 0) pe_int (nomark _)) (pss_one (ps_ret (pe_bill T.b13 hr rfl (pv 1)))) pss_nil) (pss_cons (ps_if (pt_cmpR op_eq (pv 0) pe_int (nomark _)) (pss_one (ps_ret (pe_bill T.b14 hr rfl (pv 1)))) pss_nil) (pss_one (ps_ret pe_non))))))))), ?_⟩
  obtain ⟨i, v, rfl, h0, h1, q⟩ := h
  obtain rfl | rfl | rfl | rfl | rfl | rfl | rfl : i = 8 ∨ i = 9 ∨ i = 10 ∨ i = 11 ∨ i = 12 ∨ i = 13 ∨ i = 14 := by omega
  · refine ⟨_, rfl, rfl, _, rfl, iteT ?_⟩
    refine ⟨_, rfl, _, rfl, fun d hd a ha => ?_⟩
    exact q a d _ ((same_new hd).trans (same_new ha)) upd_same (same_new ha _ _ upd_same)
  · refine ⟨_, rfl, rfl, _, rfl, iteF ?_⟩
    refine ⟨_, rfl, rfl, _, rfl, iteT ?_⟩
    refine ⟨_, rfl, _, rfl, fun d hd a ha => ?_⟩
    exact q a d _ ((same_new hd).trans (same_new ha)) upd_same (same_new ha _ _ upd_same)
  · refine ⟨_, rfl, rfl, _, rfl, iteF ?_⟩
    refine ⟨_, rfl, rfl, _, rfl, iteF ?_⟩
    refine ⟨_, rfl, rfl, _, rfl, iteT ?_⟩
    refine ⟨_, rfl, _, rfl, fun d hd a ha => ?_⟩
    exact q a d _ ((same_new hd).trans (same_new ha)) upd_same (same_new ha _ _ upd_same)
  · refine ⟨_, rfl, rfl, _, rfl, iteF ?_⟩
    refine ⟨_, rfl, rfl, _, rfl, iteF ?_⟩
    refine ⟨_, rfl, rfl, _, rfl, iteF ?_⟩
    refine ⟨_, rfl, rfl, _, rfl, iteT ?_⟩
    refine ⟨_, rfl, _, rfl, fun d hd a ha => ?_⟩
    exact q a d _ ((same_new hd).trans (same_new ha)) upd_same (same_new ha _ _ upd_same)
  · refine ⟨_, rfl, rfl, _, rfl, iteF ?_⟩
    refine ⟨_, rfl, rfl, _, rfl, iteF ?_⟩
    refine ⟨_, rfl, rfl, _, rfl, iteF ?_⟩
    refine ⟨_, rfl, rfl, _, rfl, iteF ?_⟩
    refine ⟨_, rfl, rfl, _, rfl, iteT ?_⟩
    refine ⟨_, rfl, _, rfl, fun d hd a ha => ?_⟩
    exact q a d _ ((same_new hd).trans (same_new ha)) upd_same (same_new ha _ _ upd_same)
  · refine ⟨_, rfl, rfl, _, rfl, iteF ?_⟩
    refine ⟨_, rfl, rfl, _, rfl, iteF ?_⟩
    refine ⟨_, rfl, rfl, _, rfl, iteF ?_⟩
    refine ⟨_, rfl, rfl, _, rfl, iteF ?_⟩
    refine ⟨_, rfl, rfl, _, rfl, iteF ?_⟩
    refine ⟨_, rfl, rfl, _, rfl, iteT ?_⟩
    refine ⟨_, rfl, _, rfl, fun d hd a ha => ?_⟩
    exact q a d _ ((same_new hd).trans (same_new ha)) upd_same (same_new ha _ _ upd_same)
  · refine ⟨_, rfl, rfl, _, rfl, iteF ?_⟩
    refine ⟨_, rfl, rfl, _, rfl, iteF ?_⟩
    refine ⟨_, rfl, rfl, _, rfl, iteF ?_⟩
    refine ⟨_, rfl, rfl, _, rfl, iteF ?_⟩
    refine ⟨_, rfl, rfl, _, rfl, iteF ?_⟩
    refine ⟨_, rfl, rfl, _, rfl, iteF ?_⟩
    refine ⟨_, rfl, rfl, _, rfl, iteT ?_⟩
    refine ⟨_, rfl, _, rfl, fun d hd a ha => ?_⟩
    exact q a d _ ((same_new hd).trans (same_new ha)) upd_same (same_new ha _ _ upd_same)
theorem c_l_flags (T : TX P K mg a0 a1 a2 a3 a4 a5 a6 a7 a8 a9 a10 a11 a12 a13 a14 a15 a16 CB) : Says P w K mg base 1 "_law_flags" ["_law_error"] (sp_flags K (cs a0 a1 a2 a3 a4 a5 a6 a7 a8 a9 a10 a11 a12 a13 a14 a15 a16)) := by
  refine says T.d_l_flags sc_l_flags (fun vs H Q E h => ?_) (fun f cdv A outer s H vs Q E hr h => ?_)
  · obtain ⟨_, _, rfl, _⟩ := h; rfl
  refine ⟨_, (pss_cons (ps_set (i := 1) sc_l_flags.nd rfl (.inl rfl) (pe_lst (pa_cons (pe_callB call_isY (by rfl) T.b_isinstance (by decide +kernel) (pa_cons (pv 0) (pa_cons (pe_glob (v := .ref a0) rfl T.b0.gC rfl) pa_nil))) (pa_cons (pe_callB call_isY (by rfl) T.b_isinstance (by decide +kernel) (pa_cons (pv 0) (pa_cons (pe_glob (v := .ref a1) rfl T.b1.gC rfl) pa_nil))) (pa_cons (pe_callB call_isY (by rfl) T.b_isinstance (by decide +kernel) (pa_cons (pv 0) (pa_cons (pe_glob (v := .ref a2) rfl T.b2.gC rfl) pa_nil))) (pa_cons (pe_callB call_isY (by rfl) T.b_isinstance (by decide +kernel) (pa_cons (pv 0) (pa_cons (pe_glob (v := .ref a3) rfl T.b3.gC rfl) pa_nil))) pa_nil)))))) (pss_cons (ps_set (i := 1) sc_l_flags.nd rfl (.inl rfl) (pe_op op_cat (pv 1) (pe_lst (pa_cons (pe_callB call_isY (by rfl) T.b_isinstance (by decide +kernel) (pa_cons (pv 0) (pa_cons (pe_glob (v := .ref a4) rfl T.b4.gC rfl) pa_nil))) (pa_cons (pe_callB call_isY (by rfl) T.b_isinstance (by decide +kernel) (pa_cons (pv 0) (pa_cons (pe_glob (v := .ref a5) rfl T.b5.gC rfl) pa_nil))) (pa_cons (pe_callB call_isY (by rfl) T.b_isinstance (by decide +kernel) (pa_cons (pv 0) (pa_cons (pe_glob (v := .ref a6) rfl T.b6.gC rfl) pa_nil))) (pa_cons (pe_callB call_isY (by rfl) T.b_isinstance (by decide +kernel) (pa_cons (pv 0) (pa_cons (pe_glob (v := .ref a7) rfl T.b7.gC rfl) pa_nil))) pa_nil))))))) (pss_cons (ps_set (i := 1) sc_l_flags.nd rfl (.inl rfl) (pe_op op_cat (pv 1) (pe_lst (pa_cons (pe_callB call_isY (by rfl) T.b_isinstance (by decide +kernel) (pa_cons (pv 0) (pa_cons (pe_glob (v := .ref a8) rfl T.b8.gC rfl) pa_nil))) (pa_cons (pe_callB call_isY (by rfl) T.b_isinstance (by decide +kernel) (pa_cons (pv 0) (pa_cons (pe_glob (v := .ref a9) rfl T.b9.gC rfl) pa_nil))) (pa_cons (pe_callB call_isY (by rfl) T.b_isinstance (by decide +kernel) (pa_cons (pv 0) (pa_cons (pe_glob (v := .ref a10) rfl T.b10.gC rfl) pa_nil))) (pa_cons (pe_callB call_isY (by rfl) T.b_isinstance (by decide +kernel) (pa_cons (pv 0) (pa_cons (pe_glob (v := .ref a11) rfl T.b11.gC rfl) pa_nil))) pa_nil))))))) (pss_cons (ps_set (i := 1) sc_l_flags.nd rfl (.inl rfl) (pe_op op_cat (pv 1) (pe_lst (pa_cons (pe_callB call_isY (by rfl) T.b_isinstance (by decide +kernel) (pa_cons (pv 0) (pa_cons (pe_glob (v := .ref a12) rfl T.b12.gC rfl) pa_nil))) (pa_cons (pe_callB call_isY (by rfl) T.b_isinstance (by decide +kernel) (pa_cons (pv 0) (pa_cons (pe_glob (v := .ref a13) rfl T.b13.gC rfl) pa_nil))) (pa_cons (pe_callB call_isY (by rfl) T.b_isinstance (by decide +kernel) (pa_cons (pv 0) (pa_cons (pe_glob (v := .ref a14) rfl T.b14.gC rfl) pa_nil))) pa_nil)))))) (pss_one (ps_ret (pe_op op_cat (pv 1) (pe_lst (pa_cons (pe_callB call_isY (by rfl) T.b_isinstance (by decide +kernel) (pa_cons (pv 0) (pa_cons (pe_glob (v := .ref a15) rfl T.b15.gC rfl) pa_nil))) (pa_cons (pe_callB call_isY (by rfl) T.b_isinstance (by decide +kernel) (pa_cons (pv 0) (pa_cons (pe_glob (v := .ref a16) rfl T.b16.gC rfl) pa_nil))) pa_nil)))))))))), ?_⟩
  obtain ⟨i, a, rfl, hi, kp, q⟩ := h
  refine ⟨_, rfl, isin kp (.own _) (T.kit i 0 hi (by decide)) ?_⟩
  refine ⟨_, rfl, isin kp (.own _) (T.kit i 1 hi (by decide)) ?_⟩
  refine ⟨_, rfl, isin kp (.own _) (T.kit i 2 hi (by decide)) ?_⟩
  refine ⟨_, rfl, isin kp (.own _) (T.kit i 3 hi (by decide)) ?_⟩
  refine ⟨(show 4 ≤ sizeLine by decide), fun l0 n0 => ?_⟩
  refine ⟨_, rfl, ?_⟩
  refine ⟨_, rfl, isin (kp.same (same_new n0)) (.own _) (T.kit i 4 hi (by decide)) ?_⟩
  refine ⟨_, rfl, isin (kp.same (same_new n0)) (.own _) (T.kit i 5 hi (by decide)) ?_⟩
  refine ⟨_, rfl, isin (kp.same (same_new n0)) (.own _) (T.kit i 6 hi (by decide)) ?_⟩
  refine ⟨_, rfl, isin (kp.same (same_new n0)) (.own _) (T.kit i 7 hi (by decide)) ?_⟩
  refine ⟨(show 4 ≤ sizeLine by decide), fun m1 w1 => ?_⟩
  refine ⟨_, _, _, _, rfl, rfl, same_new w1 _ _ upd_same, upd_same, (by show 4 + 4 ≤ sizeLine; decide), fun l1 n1 => ?_⟩
  refine ⟨_, rfl, ?_⟩
  refine ⟨_, rfl, isin (kp.same (((same_new n0).trans (same_new w1)).trans (same_new n1))) (.own _) (T.kit i 8 hi (by decide)) ?_⟩
  refine ⟨_, rfl, isin (kp.same (((same_new n0).trans (same_new w1)).trans (same_new n1))) (.own _) (T.kit i 9 hi (by decide)) ?_⟩
  refine ⟨_, rfl, isin (kp.same (((same_new n0).trans (same_new w1)).trans (same_new n1))) (.own _) (T.kit i 10 hi (by decide)) ?_⟩
  refine ⟨_, rfl, isin (kp.same (((same_new n0).trans (same_new w1)).trans (same_new n1))) (.own _) (T.kit i 11 hi (by decide)) ?_⟩
  refine ⟨(show 4 ≤ sizeLine by decide), fun m2 w2 => ?_⟩
  refine ⟨_, _, _, _, rfl, rfl, same_new w2 _ _ upd_same, upd_same, (by show 8 + 4 ≤ sizeLine; decide), fun l2 n2 => ?_⟩
  refine ⟨_, rfl, ?_⟩
  refine ⟨_, rfl, isin (kp.same (((((same_new n0).trans (same_new w1)).trans (same_new n1)).trans (same_new w2)).trans (same_new n2))) (.own _) (T.kit i 12 hi (by decide)) ?_⟩
  refine ⟨_, rfl, isin (kp.same (((((same_new n0).trans (same_new w1)).trans (same_new n1)).trans (same_new w2)).trans (same_new n2))) (.own _) (T.kit i 13 hi (by decide)) ?_⟩
  refine ⟨_, rfl, isin (kp.same (((((same_new n0).trans (same_new w1)).trans (same_new n1)).trans (same_new w2)).trans (same_new n2))) (.own _) (T.kit i 14 hi (by decide)) ?_⟩
  refine ⟨(show 3 ≤ sizeLine by decide), fun m3 w3 => ?_⟩
  refine ⟨_, _, _, _, rfl, rfl, same_new w3 _ _ upd_same, upd_same, (by show 12 + 3 ≤ sizeLine; decide), fun l3 n3 => ?_⟩
  refine ⟨_, rfl, ?_⟩
  refine ⟨_, rfl, isin (kp.same (((((((same_new n0).trans (same_new w1)).trans (same_new n1)).trans (same_new w2)).trans (same_new n2)).trans (same_new w3)).trans (same_new n3))) (.own _) (T.kit i 15 hi (by decide)) ?_⟩
  refine ⟨_, rfl, isin (kp.same (((((((same_new n0).trans (same_new w1)).trans (same_new n1)).trans (same_new w2)).trans (same_new n2)).trans (same_new w3)).trans (same_new n3))) (.own _) (T.kit i 16 hi (by decide)) ?_⟩
  refine ⟨(show 2 ≤ sizeLine by decide), fun m4 w4 => ?_⟩
  refine ⟨_, _, _, _, rfl, rfl, same_new w4 _ _ upd_same, upd_same, (by show 15 + 2 ≤ sizeLine; decide), fun l4 n4 => ?_⟩
  exact q l4 _ (((((((((same_new n0).trans (same_new w1)).trans (same_new n1)).trans (same_new w2)).trans (same_new n2)).trans (same_new w3)).trans (same_new n3)).trans (same_new w4)).trans (same_new n4)) (show _ = some (HO.lst (fl17 i)) from upd_same)
end
end Cb
set_option Elab.async false
set_option linter.all false
set_option maxRecDepth 100000
set_option maxHeartbeats 8000000
namespace Cb
open PySem PySem.Spec PyProof.Rows L2 ExS
abbrev s_law : Stmt := topS 27
abbrev NL : List Str := ["_law_script", "_law_generator_here", "_law_value", "_law_which", "_law_error", "_law_bare", "_law_place", "_law_field"]
theorem sc_law : FnScope NL ["_law_script"] (defScope s_law) := ⟨rfl, rfl, rfl, by decide +kernel, rfl, by decide +kernel, by decide +kernel⟩
def sp_law (K : PySem.W.Frag) : Sp := fun vs H Q _ => ∃ (p : Addr) (ns : List Int), vs = [.ref p] ∧ SqL K H p (ns.map V.int) ∧ ∀ H', Q (.bl true) H'

theorem op_mul_012 {X : Cx} : OpR X (binaryOp .Mult) (fun x y H Q => ∃ (z : Str) (n : Int), x = .str z ∧ y = .int n ∧ 0 ≤ n ∧ n ≤ 2 ∧ z.length = 2 ∧ ∀ r : Str, r = Str.empty ∨ r = z ∨ r = ⟨(List.replicate 2 z.cps).foldl (· ++ ·) #[]⟩ → r.length ≤ sizeLine ∧ Q (.str r) H) := by
  intro pins s σ H x y v u Q I rx ry h
  obtain ⟨z, n, rfl, rfl, n0, n1, lz, q⟩ := h
  obtain ⟨t, rfl⟩ := rx
  obtain ⟨t', rfl⟩ := ry
  refine PySem.P.mul_str ?_ ?_ ?_ ?_
  · have h1 : ¬ n < -(2 ^ 63 : Int) := by omega
    have h2 : ¬ n ≥ 2 ^ 63 := by omega
    rw [decide_eq_false h1, decide_eq_false h2]
    rfl
  · intro h1 _
    rw [lz]
    have : (2 : Int) ≤ (2 ^ 63 - 1) / n := Int.le_ediv_of_mul_le (by omega) (by omega)
    omega
  · intro _ _
    rw [lz]
    unfold Builtin.Str.tooLong
    exact decide_eq_false (Nat.not_lt.mpr (Nat.le_trans (show 2 * n.toNat ≤ 100 by omega) (show 100 ≤ sizeLine by decide)))
  · have e3 : n = 0 ∨ n = 1 ∨ n = 2 := by omega
    rcases e3 with rfl | rfl | rfl
    · rw [if_pos (by decide)]
      exact ⟨(q _ (.inl rfl)).1, ⟨.str _, H, I.tok _, ⟨_, rfl⟩, (q _ (.inl rfl)).2⟩⟩
    · rw [if_neg (by decide), if_pos (by rfl)]
      exact ⟨.str z, H, I, ⟨_, rfl⟩, (q _ (.inr (.inl rfl))).2⟩
    · rw [if_neg (by decide), if_neg (by rw [lz]; decide)]
      exact ⟨(q _ (.inr (.inr rfl))).1, ⟨.str _, H, I.tok _, ⟨_, rfl⟩, (q _ (.inr (.inr rfl))).2⟩⟩
theorem pe_billK {X : Cx} {x : Str} {C : Addr} {kw : Keyword} {te : TE} {k : Nat} {p pos : Pos} (T : BillX X.prog X.K X.mg C x) (hr : Room (k + 1) X.A) (hg : Gl X x) (ha : PK X [kw] (tCons te tNil)) (hks : (backToKw pos (keywordEach [kw] X.env)).filterMap (·.1) = [("value" : Str)] := by rfl) (hall : (backToKw pos (keywordEach [kw] X.env)).all (·.1.isSome) = true := by rfl)
    (hdb : (x == ("__debug__" : Str)) = false := by decide) (hpl : ((backTo pos (starEach [] X.env)).any (·.1) || (backToKw pos (keywordEach [kw] X.env)).any (·.1.isNone)) = false := by rfl) : PE X (.Call (.Name x p) [] [kw] pos) (tMade (tBill C te)) := pe_made (pmk_billK T hr hg ha hks hall hdb hpl)
theorem new_l {H : Hp} {xs : List V} {ds : List PyData} {l : Addr} (n : H l = none) (r : DTs H xs ds) : ∃ H', upd H l (.lst xs) = H' ∧ Same H H' ∧ DT H' (.ref l) (.list ds) ∧ H' l = some (.lst xs) :=
  ⟨_, rfl, same_new n, .lst upd_same (r.same (same_new n) _), upd_same⟩
theorem new_t {H : Hp} {xs : List V} {ds : List PyData} {l : Addr} (n : H l = none) (r : DTs H xs ds) : ∃ H', upd H l (.tup xs) = H' ∧ Same H H' ∧ DT H' (.ref l) (.tuple ds) ∧ H' l = some (.tup xs) :=
  ⟨_, rfl, same_new n, .tup upd_same (r.same (same_new n) _), upd_same⟩
theorem neN {x : V} {A B : Prop} (b : B) : if (!decide (x = x)) = true then A else B := by
  rw [decide_eq_true rfl]
  exact iteF b
def flB (i : Nat) : List PyData := [.bool (decide (i = 0)), .bool (decide (i = 1)), .bool (decide (i = 2)), .bool (decide (i = 3)), .bool (decide (i = 4)), .bool (decide (i = 5)), .bool (decide (i = 6)), .bool (decide (i = 7)), .bool (decide (i = 8)), .bool (decide (i = 9)), .bool (decide (i = 10)), .bool (decide (i = 11)), .bool (decide (i = 12)), .bool (decide (i = 13)), .bool (decide (i = 14)), .bool (decide (i = 15)), .bool (decide (i = 16))]
theorem dt_fl {H : Hp} {i : Nat} : DTs H (fl17 i) (flB i) := .cons (.bl _) (.cons (.bl _) (.cons (.bl _) (.cons (.bl _) (.cons (.bl _) (.cons (.bl _) (.cons (.bl _) (.cons (.bl _) (.cons (.bl _) (.cons (.bl _) (.cons (.bl _) (.cons (.bl _) (.cons (.bl _) (.cons (.bl _) (.cons (.bl _) (.cons (.bl _) (.cons (.bl _) .nil))))))))))))))))
theorem fl_ok : ∀ i, i < 17 → plain (.list (flB i)) = true ∧ PyData.eqv (.list (flB i)) (.list (flB i)) = true ∧ SeqAt.shaped (.list (flB i)) = true := by decide +kernel
theorem fl_get {i : Nat} {y : V} : ∀ {j : Nat}, (fl17 i)[j]? = some y → y = .bl (decide (i = j))
  | 0, h => (Option.some.inj h).symm
  | 1, h => (Option.some.inj h).symm
  | 2, h => (Option.some.inj h).symm
  | 3, h => (Option.some.inj h).symm
  | 4, h => (Option.some.inj h).symm
  | 5, h => (Option.some.inj h).symm
  | 6, h => (Option.some.inj h).symm
  | 7, h => (Option.some.inj h).symm
  | 8, h => (Option.some.inj h).symm
  | 9, h => (Option.some.inj h).symm
  | 10, h => (Option.some.inj h).symm
  | 11, h => (Option.some.inj h).symm
  | 12, h => (Option.some.inj h).symm
  | 13, h => (Option.some.inj h).symm
  | 14, h => (Option.some.inj h).symm
  | 15, h => (Option.some.inj h).symm
  | 16, h => (Option.some.inj h).symm
  | _ + 17, h => nomatch h
theorem fl_y {i j : Nat} {y : V} {z : Int} (hz : z = (i : Int)) (h : (fl17 i)[j]? = some y) : y = .bl (decide (V.int (0 + (j : Int)) = V.int z)) := by
  rw [fl_get h]
  by_cases e : i = j
  · rw [decide_eq_true e, decide_eq_true (by rw [hz, e, Int.zero_add])]
  · rw [decide_eq_false e, decide_eq_false]
    intro q
    have := V.int.inj q
    omega
def GoodD (d : PyData) : Prop := plain d = true ∧ PyData.eqv d d = true ∧ SeqAt.shaped d = true ∧ isL d = false
def lv (i : Nat) : List V := .int 1 :: .non :: (List.range i).map fun j : Nat => .int (j : Int)
def ld (i : Nat) : List PyData := .int 1 :: .none :: (List.range i).map fun j : Nat => .int (j : Int)
theorem dt_lv {H : Hp} {i : Nat} : DTs H (lv i) (ld i) := .cons (.int _) (.cons .non (by
  generalize List.range i = r
  induction r with
  | nil => exact .nil
  | cons j r ih => exact .cons (.int _) ih))
theorem lv_next (i : Nat) : lv (i + 1) = lv i ++ [.int (i : Int)] := by
  unfold lv
  rw [List.range_succ, List.map_append]
  rfl
theorem lv_len (i : Nat) : (lv i).length = i + 2 := by
  unfold lv
  simp
theorem ld_ok : ∀ i, i < 17 → plain (.list (ld i)) = true ∧ PyData.eqv (.list (ld i)) (.list (ld i)) = true ∧ SeqAt.shaped (.list (ld i)) = true := by decide +kernel
def VS (H : Hp) (v : V) (i : Nat) : Prop := (∃ d, DT H v d ∧ GoodD d) ∨ ∃ l, v = .ref l ∧ H l = some (.lst (lv i))
theorem VS.same {H H' : Hp} {v : V} {i : Nat} (h : VS H v i) (s : Same H H') : VS H' v i := h.elim (fun ⟨d, t, g⟩ => .inl ⟨d, t.same s _, g⟩) fun ⟨l, e, hl⟩ => .inr ⟨l, e, s _ _ hl⟩
theorem good_int (n : Int) : GoodD (.int n) := ⟨rfl, by simp [PyData.eqv], rfl, rfl⟩
theorem good_s : ∀ z : Str, z = Str.empty ∨ z = ("ab" : Str) ∨ z = ⟨(List.replicate 2 ("ab" : Str).cps).foldl (· ++ ·) #[]⟩ → z.length ≤ sizeLine ∧ GoodD (.str z) := by
  rintro z (rfl | rfl | rfl)
  · exact ⟨by decide +kernel, by decide +kernel, by decide +kernel, by decide +kernel, rfl⟩
  · exact ⟨by decide +kernel, by decide +kernel, by decide +kernel, by decide +kernel, rfl⟩
  · exact ⟨by decide +kernel, by decide +kernel, by decide +kernel, by decide +kernel, rfl⟩
theorem good_none : GoodD .none := ⟨by decide +kernel, by decide +kernel, by decide +kernel, rfl⟩
theorem good_tup : GoodD (.tuple [.int 2, .tuple [.int 3]]) := ⟨by decide +kernel, by decide +kernel, by decide +kernel, rfl⟩

section
variable {P : Program} {w : World} {K : PySem.W.Frag} {mg : Str → Option Value} {base : Heap} {a0 a1 a2 a3 a4 a5 a6 a7 a8 a9 a10 a11 a12 a13 a14 a15 a16 CB : Addr}

theorem c_law (T : TX P K mg a0 a1 a2 a3 a4 a5 a6 a7 a8 a9 a10 a11 a12 a13 a14 a15 a16 CB) {fl : Addr} {fdl : FuncData} (F : Fun K "law" "law" s_law fl fdl) : FnG P w K mg base CX0 6 fl fdl ["_law_script"] (sp_law K) := by
  refine fnG F sc_law (fun vs H Q E h => ?_) (fun f cdv A outer s H vs Q E ga hr h => ?_)
  · obtain ⟨_, _, rfl, _⟩ := h; rfl
  refine ⟨_, (pss_cons (ps_set (i := 1) sc_law.nd rfl (.inl rfl) (pe_s (c_l_generator T.tg) hr (pa_cons (pv 0) (pa_cons pe_int pa_nil)))) (pss_cons (ps_set (i := 2) sc_law.nd rfl (.inl rfl) (pe_ix ix_list (pe_lst (pa_cons (pe_s (c_l_random T.tg) hr (pa_cons (pv 1) (pa_cons (pe_op op_powA pe_int pe_int) pa_nil))) (pa_cons (pe_op op_mul_012 pe_str (pe_s (c_l_random T.tg) hr (pa_cons (pv 1) (pa_cons pe_int pa_nil)))) (pa_cons (pe_lst (pa_cons pe_int (pa_cons pe_non pa_nil))) (pa_cons pe_non (pa_cons (pe_tup (pa_cons pe_int (pa_cons (pe_tup (pa_cons pe_int pa_nil)) pa_nil))) pa_nil)))))) (pe_s (c_l_random T.tg) hr (pa_cons (pv 1) (pa_cons pe_int pa_nil))) (fun _ _ => rfl))) (pss_cons (ps_for PassesOwn.never rfl (pi_range1 (by rfl) T.tg.b_range (pa_cons pe_int pa_nil)) (pg_name (i := 3) sc_law.nd rfl (.inr rfl)) (pss_cons (ps_set (i := 4) sc_law.nd rfl (.inl rfl) (pe_ifExp (pt_cmpR op_lt (pv 3) pe_int (nomark _)) (pe_s (c_l_first T) hr (pa_cons (pv 3) (pa_cons (pv 2) pa_nil))) (pe_s (c_l_second T) hr (pa_cons (pv 3) (pa_cons (pv 2) pa_nil))))) (pss_cons (ps_if (PW.pt (pw_or (pt_cmpR (op_neD hr.units) (pe_s (c_l_flags T) hr (pa_cons (pv 4) pa_nil)) (pe_lc (own := [("_law_place", 6)]) (g := gName 6) (tt := tYes) rfl sc_law.nd (pi_range1 (by rfl) T.tg.b_range (pa_cons pe_int pa_nil)) (blkOk_by (N := NL) (sc := defScope s_law) (own := [("_law_place", 6)]) (by decide +kernel)) (fun _ _ _ _ _ => pg_name (i := 6) sc_law.nd rfl (Or.inl rfl)) (fun _ _ _ _ _ => pts_nil) (fun _ _ _ _ _ => (pe_cmpR op_eq (pv 6) (pv 3) (nomark _)))) (nomark _)) (pw_or (pt_not (pt_val (pe_callB call_isY (by rfl) T.b_isinstance (by decide +kernel) (pa_cons (pv 4) (pa_cons (pe_glob (v := .ref CB) rfl T.bB.gC rfl) pa_nil))))) (pw_or1 (pt_not (pt_val (pe_callB call_isY (by rfl) T.b_isinstance (by decide +kernel) (pa_cons (pv 4) (pa_cons (pe_bltn (v := .ty "ValueError") (by rfl) T.b_VE (by decide +kernel) rfl) pa_nil))))))))) (pss_one (ps_ret pe_bl)) pss_nil) (pss_cons (ps_if (pt_val (pe_callB call_isY (by rfl) T.b_isinstance (by decide +kernel) (pa_cons (pv 2) (pa_cons (pe_bltn (v := .ty "list") (by rfl) T.b_list (by decide +kernel) rfl) pa_nil)))) (pss_one (ps_expr (pe_bm PySem.F.plainAttrs_list PySem.F.slot_list_append PySem.F.type_list_append mt_append (pv 2) (pa_cons (pv 3) pa_nil)))) pss_nil) (pss_one (ps_if (pt_not (pt_cmpR (op_eqD hr.units) (pe_kf (n := "value") (pv 4)) (pv 2) (nomark _))) (pss_one (ps_ret pe_bl)) pss_nil)))))) (pss_cons (ps_set (i := 5) sc_law.nd rfl (.inl rfl) (pe_lst (pa_cons (pe_kf (n := "value") (pe_bill0 T.b0 hr rfl)) (pa_cons (pe_kf (n := "value") (pe_bill0 T.b1 hr rfl)) (pa_cons (pe_kf (n := "value") (pe_bill0 T.b2 hr rfl)) (pa_cons (pe_kf (n := "value") (pe_bill0 T.b3 hr rfl)) (pa_cons (pe_kf (n := "value") (pe_bill0 T.b4 hr rfl)) (pa_cons (pe_kf (n := "value") (pe_bill0 T.b5 hr rfl)) pa_nil)))))))) (pss_cons (ps_set (i := 5) sc_law.nd rfl (.inl rfl) (pe_op op_cat (pv 5) (pe_lst (pa_cons (pe_kf (n := "value") (pe_bill0 T.b6 hr rfl)) (pa_cons (pe_kf (n := "value") (pe_bill0 T.b7 hr rfl)) (pa_cons (pe_kf (n := "value") (pe_bill0 T.b8 hr rfl)) (pa_cons (pe_kf (n := "value") (pe_bill0 T.b9 hr rfl)) (pa_cons (pe_kf (n := "value") (pe_bill0 T.b10 hr rfl)) pa_nil)))))))) (pss_cons (ps_set (i := 5) sc_law.nd rfl (.inl rfl) (pe_op op_cat (pv 5) (pe_lst (pa_cons (pe_kf (n := "value") (pe_bill0 T.b11 hr rfl)) (pa_cons (pe_kf (n := "value") (pe_bill0 T.b12 hr rfl)) (pa_cons (pe_kf (n := "value") (pe_bill0 T.b13 hr rfl)) (pa_cons (pe_kf (n := "value") (pe_bill0 T.b14 hr rfl)) pa_nil))))))) (pss_cons (ps_if (PW.pt (pw_or (pt_cmpR (op_neD hr.units) (pe_lc (own := [("_law_field", 7)]) (g := gName 7) (tt := _) rfl sc_law.nd (pi_list (pv 5)) (blkOk_by (N := NL) (sc := defScope s_law) (own := [("_law_field", 7)]) (by decide +kernel)) (fun _ _ _ _ _ => pg_name (i := 7) sc_law.nd rfl (Or.inl rfl)) (fun _ _ _ _ _ => pts_one (pt_cmpR op_notN (pv 7) pe_non (nomark _))) (fun _ _ _ _ _ => pv 7)) (pe_lst pa_nil) (nomark _)) (pw_or (pt_cmpR op_ne (pe_kf (n := "value") (pe_billK T.b14 hr rfl (pk_cons pe_int pk_nil))) pe_int (nomark _)) (pw_or1 (pt_cmpR (op_neD hr.units) (pe_kf (n := "value") (pe_billK T.b4 hr rfl (pk_cons (pe_tup (pa_cons pe_int pa_nil)) pk_nil))) (pe_tup (pa_cons pe_int pa_nil)) (nomark _)))))) (pss_one (ps_ret pe_bl)) pss_nil) (pss_cons (ps_if (PW.pt (pw_or (pt_cmpR (op_neD hr.units) (pe_s (c_l_flags T) hr (pa_cons (pe_bare T.b15 hr rfl) pa_nil)) (pe_lc (own := [("_law_place", 6)]) (g := gName 6) (tt := tYes) rfl sc_law.nd (pi_range1 (by rfl) T.tg.b_range (pa_cons pe_int pa_nil)) (blkOk_by (N := NL) (sc := defScope s_law) (own := [("_law_place", 6)]) (by decide +kernel)) (fun _ _ _ _ _ => pg_name (i := 6) sc_law.nd rfl (Or.inl rfl)) (fun _ _ _ _ _ => pts_nil) (fun _ _ _ _ _ => (pe_cmpR op_eq (pv 6) pe_int (nomark _)))) (nomark _)) (pw_or1 (pt_cmpR (op_neD hr.units) (pe_s (c_l_flags T) hr (pa_cons (pe_bare T.b16 hr rfl) pa_nil)) (pe_lc (own := [("_law_place", 6)]) (g := gName 6) (tt := tYes) rfl sc_law.nd (pi_range1 (by rfl) T.tg.b_range (pa_cons pe_int pa_nil)) (blkOk_by (N := NL) (sc := defScope s_law) (own := [("_law_place", 6)]) (by decide +kernel)) (fun _ _ _ _ _ => pg_name (i := 6) sc_law.nd rfl (Or.inl rfl)) (fun _ _ _ _ _ => pts_nil) (fun _ _ _ _ _ => (pe_cmpR op_eq (pv 6) pe_int (nomark _)))) (nomark _))))) (pss_one (ps_ret pe_bl)) pss_nil) (pss_one (ps_ret (pe_and (pe_callB call_isY (by rfl) T.b_isinstance (by decide +kernel) (pa_cons (pe_bare T.b15 hr rfl) (pa_cons (pe_glob (v := .ref CB) rfl T.bB.gC rfl) pa_nil))) (pe_and (pe_callB call_isY (by rfl) T.b_isinstance (by decide +kernel) (pa_cons (pe_bare T.b16 hr rfl) (pa_cons (pe_glob (v := .ref CB) rfl T.bB.gC rfl) pa_nil))) (pe_one (pe_callB call_isY (by rfl) T.b_isinstance (by decide +kernel) (pa_cons (pe_bare T.bB hr rfl) (pa_cons (pe_bltn (v := .ty "ValueError") (by rfl) T.b_VE (by decide +kernel) rfl) pa_nil)))))))))))))))), ?_⟩

  obtain ⟨p, ns, rfl, hS, q⟩ := h
  refine ⟨_, rfl, p, ns, 0, rfl, hS, by decide, by decide, fun g ga0 s0 H1 hg s1 hp1 => ?_⟩
  refine ⟨_, rfl, _, _, rfl, rfl, ⟨by decide, by decide +kernel⟩, g, ga0, s0, _, _, rfl, hp1, by decide +kernel, by decide +kernel, by decide, by decide, fun r1 a1' t1 b1 b2 b3 b4 => ?_⟩
  refine ⟨_, rfl, g, a1', s0, t1, 3, rfl, upd_same, by decide, by decide, by omega, by omega, fun r2 a2' t2 b5 b6 b7 b8 => ?_⟩
  refine ⟨"ab", r2, rfl, rfl, by omega, by omega, by decide +kernel, fun z hz => ⟨(good_s z hz).1, ?_⟩⟩
  have gz := (good_s z hz).2
  have hg0 : (upd (upd H1 g (gen a1' s0 t1)) g (gen a2' s0 t2)) g = some (gen a2' s0 t2) := upd_same
  generalize upd (upd H1 g (gen a1' s0 t1)) g (gen a2' s0 t2) = G0 at hg0 ⊢
  refine ⟨(show 2 ≤ sizeLine by decide), fun l1 m1 => ?_⟩
  obtain ⟨G1, e1, u1, -, y1⟩ := new_l m1 (ds := [.int 1, .none]) (.cons (.int _) (.cons .non .nil))
  rw [e1]
  refine ⟨(show 1 ≤ sizeLine by decide), fun l2 m2 => ?_⟩
  obtain ⟨G2, e2, u2, d2, -⟩ := new_t m2 (ds := [.int 3]) (.cons (.int _) .nil)
  rw [e2]
  refine ⟨(show 2 ≤ sizeLine by decide), fun l3 m3 => ?_⟩
  obtain ⟨G3, e3, u3, d3, -⟩ := new_t m3 (ds := [.int 2, .tuple [.int 3]]) (.cons (.int _) (.cons d2 .nil))
  rw [e3]
  refine ⟨(show 5 ≤ sizeLine by decide), fun l4 m4 => ?_⟩
  obtain ⟨G4, e4, u4, y4⟩ : ∃ H', upd G3 l4 (.lst [.int r1, .str z, .ref l1, .non, .ref l3]) = H' ∧ Same G3 H' ∧ H' l4 = some (.lst [.int r1, .str z, .ref l1, .non, .ref l3]) := ⟨_, rfl, same_new m4, upd_same⟩
  rw [e4]
  have hg4 := u4 _ _ (u3 _ _ (u2 _ _ (u1 _ _ hg0)))
  have z1 := u4 _ _ (u3 _ _ (u2 _ _ y1))
  have z3 := d3.same u4 _
  clear e1 e2 e3 e4 u1 u2 u3 u4
  refine ⟨_, rfl, g, a2', s0, t2, 5, rfl, hg4, by decide, by decide, by omega, by omega, fun r3 a3' t3 c1 c2 c3 c4 => ?_⟩
  have n4 : l4 ≠ g := ne_of y4 hg4 (by intro x; injection x with x; injection x with _ x; injection x with x; cases x)
  have n1 : l1 ≠ g := ne_of z1 hg4 (by intro x; injection x with x; injection x with _ x; injection x with x; cases x)
  have k4 : (upd G4 g (gen a3' s0 t3)) l4 = some (.lst [.int r1, .str z, .ref l1, .non, .ref l3]) := (upd_ne n4).trans y4
  have k1 : (upd G4 g (gen a3' s0 t3)) l1 = some (.lst [.int 1, .non]) := (upd_ne n1).trans z1
  have kt : ∀ t xs, G4 t = some (.tup xs) → (upd G4 g (gen a3' s0 t3)) t = some (.tup xs) := fun t xs e => (upd_ne (ne_of e hg4 (by intro x; cases x))).trans e
  have k3 : DT (upd G4 g (gen a3' s0 t3)) (.ref l3) (.tuple [.int 2, .tuple [.int 3]]) := by
    cases z3 with
    | tup e r =>
      cases r with
      | cons r1 r =>
        cases r with
        | cons r2 r =>
          cases r
          cases r1
          cases r2 with
          | tup e2 r2 =>
            cases r2 with
            | cons q1 q2 =>
              cases q1
              cases q2
              exact .tup (kt _ _ e) (.cons (.int _) (.cons (.tup (kt _ _ e2) (.cons (.int _) .nil)) .nil))
  generalize upd G4 g (gen a3' s0 t3) = G5 at k4 k1 k3 ⊢
  obtain ⟨v, hv, vs⟩ : ∃ v, atI [.int r1, .str z, .ref l1, .non, .ref l3] r3 = some v ∧ VS G5 v 0 := by
    obtain rfl | rfl | rfl | rfl | rfl : r3 = 0 ∨ r3 = 1 ∨ r3 = 2 ∨ r3 = 3 ∨ r3 = 4 := by omega
    · exact ⟨_, rfl, .inl ⟨_, .int _, good_int _⟩⟩
    · exact ⟨_, rfl, .inl ⟨_, .str _, gz⟩⟩
    · exact ⟨_, rfl, .inr ⟨_, rfl, k1⟩⟩
    · exact ⟨_, rfl, .inl ⟨_, .non, good_none⟩⟩
    · exact ⟨_, rfl, .inl ⟨_, k3, good_tup⟩⟩
  refine ⟨_, _, r3, v, rfl, rfl, SqL.of k4, hv, ?_⟩
  clear k4 k1 k3 kt z1 z3 y1 y4 hg4 hg0 gz hz m1 m2 m3 m4 n4 n1 d2 d3
  refine ⟨15, rfl, by decide, by decide, for_range (n := 15) (fun i σ H' => (∃ x3 x4 : Option V, σ = [some (.ref p), some (.ref g), some v, x3, x4, none, none, none]) ∧ VS H' v i) ⟨⟨_, _, rfl⟩, vs⟩ ?_ ?_⟩
  · rintro i σ H' hi ⟨⟨x3, x4, rfl⟩, vs⟩
    have hi2 : i < 15 := hi

    refine ⟨_, rfl, _, _, rfl, rfl, _, rfl, ite2 (fun lt => ?_) (fun ge => ?_)⟩
    · have lt2 : 0 + (i : Int) < 8 := of_decide_eq_true lt
      refine ⟨_, rfl, _, rfl, i, v, (by rw [Int.zero_add]; rfl), by omega, by omega, fun a d H2 s2 ha hd => ?_⟩
      have kp : Kp K H2 a (cs a0 a1 a2 a3 a4 a5 a6 a7 a8 a9 a10 a11 a12 a13 a14 a15 a16 i) := ⟨T.exc i (by omega), .inr ⟨d, _, ha, hd⟩⟩
      refine ⟨_, rfl, i, a, rfl, by omega, kp, fun l H3 s3 hl => ?_⟩
      refine ⟨17, rfl, by decide, by decide, fun D hD => lc_mapW walk_range (ys := fl17 i) (fun _ _ => trivial) (fun j H x H' y => y.1) hD rfl (by decide) ?_ ?_⟩
      · rintro j x y H4 Q4 s4 ⟨_, rfl⟩ hy q4
        rw [fl_y (z := 0 + (i : Int)) (by omega) hy] at q4
        exact ⟨_, rfl, _, rfl, rfl, q4 _ (Same.refl _)⟩
      intro H4 s4 hD4
      obtain ⟨f1, f2, f3⟩ := fl_ok i (by omega)
      refine ⟨.list (flB i), .list (flB i), (DT.lst (s4 _ _ hl) dt_fl).dp f1, (DT.lst hD4 dt_fl).dp f1, f3, f3, _, rfl, ?_⟩
      rw [f2]
      refine iteF ?_
      have s5 := (s3.trans s4)
      refine ⟨_, rfl, isin (kp.same s5) (.own _) (T.kitB i (by omega)) ?_⟩
      refine ⟨_, rfl, iteF ?_⟩
      refine ⟨_, rfl, isin (kp.same s5) (.ty _) (T.kitV i (by omega)) ?_⟩
      refine ⟨_, rfl, iteF ?_⟩
      have ha4 := s5 _ _ ha
      have hd4 := s5 _ _ hd
      have vs4 := (vs.same s2).same s5
      clear s3 s4 s5 f1 f2 f3 hl hD4 hD kp s2
      rcases vs4 with ⟨dv, dt, g1, g2, g3, g4⟩ | ⟨lw, rfl, hw⟩
      · have kl := kit_l dv
        rw [g4] at kl
        refine ⟨_, rfl, .inl (.inl ⟨v, _, _, _, false, rfl, .ty _, dt.ty, kit_ty kl, _, rfl, iteF ?_⟩)⟩
        refine ⟨_, rfl, a, _, d, _, v, rfl, ha4, (T.xfc i hi2).1, (T.xfc i hi2).2, hd4, by simp [List.lookup], _, rfl, ?_⟩
        refine ⟨dv, dv, dt.dp g1, dt.dp g1, g3, g3, _, rfl, ?_⟩
        rw [g2]
        refine iteF ?_
        exact ⟨⟨_, _, rfl⟩, .inl ⟨dv, dt, g1, g2, g3, g4⟩⟩
      · refine ⟨_, rfl, .inl (.inl ⟨.ref lw, _, _, _, true, rfl, .ty _, .base (.lst hw), kit_ty (by decide +kernel), _, rfl, iteT ?_⟩)⟩
        refine ⟨_, rfl, .inl ⟨rfl, _, SqL.of hw⟩, _, rfl, lw, _, _, rfl, rfl, hw, (by rw [lv_len]; exact small1000 (by omega)), ?_⟩
        have na : a ≠ lw := ne_of ha4 hw (by intro x; cases x)
        have nd : d ≠ lw := ne_of hd4 hw (by intro x; cases x)
        have hw5 : (upd H4 lw (.lst (lv i ++ [.int (0 + (i : Int))]))) lw = some (.lst (lv (i + 1))) := by
          rw [upd_same, lv_next, Int.zero_add]
        have ha5 : (upd H4 lw (.lst (lv i ++ [.int (0 + (i : Int))]))) a = _ := (upd_ne na).trans ha4
        have hd5 : (upd H4 lw (.lst (lv i ++ [.int (0 + (i : Int))]))) d = _ := (upd_ne nd).trans hd4
        generalize upd H4 lw (.lst (lv i ++ [.int (0 + (i : Int))])) = H5 at hw5 ha5 hd5 ⊢
        refine ⟨_, rfl, a, _, d, _, .ref lw, rfl, ha5, (T.xfc i hi2).1, (T.xfc i hi2).2, hd5, by simp [List.lookup], _, rfl, ?_⟩
        obtain ⟨g1, g2, g3⟩ := ld_ok (i + 1) (by omega)
        have dt : DT H5 (.ref lw) (.list (ld (i + 1))) := .lst hw5 dt_lv
        refine ⟨.list (ld (i + 1)), .list (ld (i + 1)), dt.dp g1, dt.dp g1, g3, g3, _, rfl, ?_⟩
        rw [g2]
        refine iteF ?_
        exact ⟨⟨_, _, rfl⟩, .inr ⟨lw, rfl, hw5⟩⟩
    · have ge2 : ¬ 0 + (i : Int) < 8 := fun z => ge (decide_eq_true z)
      refine ⟨_, rfl, _, rfl, i, v, (by rw [Int.zero_add]; rfl), by omega, by omega, fun a d H2 s2 ha hd => ?_⟩
      have kp : Kp K H2 a (cs a0 a1 a2 a3 a4 a5 a6 a7 a8 a9 a10 a11 a12 a13 a14 a15 a16 i) := ⟨T.exc i (by omega), .inr ⟨d, _, ha, hd⟩⟩
      refine ⟨_, rfl, i, a, rfl, by omega, kp, fun l H3 s3 hl => ?_⟩
      refine ⟨17, rfl, by decide, by decide, fun D hD => lc_mapW walk_range (ys := fl17 i) (fun _ _ => trivial) (fun j H x H' y => y.1) hD rfl (by decide) ?_ ?_⟩
      · rintro j x y H4 Q4 s4 ⟨_, rfl⟩ hy q4
        rw [fl_y (z := 0 + (i : Int)) (by omega) hy] at q4
        exact ⟨_, rfl, _, rfl, rfl, q4 _ (Same.refl _)⟩
      intro H4 s4 hD4
      obtain ⟨f1, f2, f3⟩ := fl_ok i (by omega)
      refine ⟨.list (flB i), .list (flB i), (DT.lst (s4 _ _ hl) dt_fl).dp f1, (DT.lst hD4 dt_fl).dp f1, f3, f3, _, rfl, ?_⟩
      rw [f2]
      refine iteF ?_
      have s5 := (s3.trans s4)
      refine ⟨_, rfl, isin (kp.same s5) (.own _) (T.kitB i (by omega)) ?_⟩
      refine ⟨_, rfl, iteF ?_⟩
      refine ⟨_, rfl, isin (kp.same s5) (.ty _) (T.kitV i (by omega)) ?_⟩
      refine ⟨_, rfl, iteF ?_⟩
      have ha4 := s5 _ _ ha
      have hd4 := s5 _ _ hd
      have vs4 := (vs.same s2).same s5
      clear s3 s4 s5 f1 f2 f3 hl hD4 hD kp s2
      rcases vs4 with ⟨dv, dt, g1, g2, g3, g4⟩ | ⟨lw, rfl, hw⟩
      · have kl := kit_l dv
        rw [g4] at kl
        refine ⟨_, rfl, .inl (.inl ⟨v, _, _, _, false, rfl, .ty _, dt.ty, kit_ty kl, _, rfl, iteF ?_⟩)⟩
        refine ⟨_, rfl, a, _, d, _, v, rfl, ha4, (T.xfc i hi2).1, (T.xfc i hi2).2, hd4, by simp [List.lookup], _, rfl, ?_⟩
        refine ⟨dv, dv, dt.dp g1, dt.dp g1, g3, g3, _, rfl, ?_⟩
        rw [g2]
        refine iteF ?_
        exact ⟨⟨_, _, rfl⟩, .inl ⟨dv, dt, g1, g2, g3, g4⟩⟩
      · refine ⟨_, rfl, .inl (.inl ⟨.ref lw, _, _, _, true, rfl, .ty _, .base (.lst hw), kit_ty (by decide +kernel), _, rfl, iteT ?_⟩)⟩
        refine ⟨_, rfl, .inl ⟨rfl, _, SqL.of hw⟩, _, rfl, lw, _, _, rfl, rfl, hw, (by rw [lv_len]; exact small1000 (by omega)), ?_⟩
        have na : a ≠ lw := ne_of ha4 hw (by intro x; cases x)
        have nd : d ≠ lw := ne_of hd4 hw (by intro x; cases x)
        have hw5 : (upd H4 lw (.lst (lv i ++ [.int (0 + (i : Int))]))) lw = some (.lst (lv (i + 1))) := by
          rw [upd_same, lv_next, Int.zero_add]
        have ha5 : (upd H4 lw (.lst (lv i ++ [.int (0 + (i : Int))]))) a = _ := (upd_ne na).trans ha4
        have hd5 : (upd H4 lw (.lst (lv i ++ [.int (0 + (i : Int))]))) d = _ := (upd_ne nd).trans hd4
        generalize upd H4 lw (.lst (lv i ++ [.int (0 + (i : Int))])) = H5 at hw5 ha5 hd5 ⊢
        refine ⟨_, rfl, a, _, d, _, .ref lw, rfl, ha5, (T.xfc i hi2).1, (T.xfc i hi2).2, hd5, by simp [List.lookup], _, rfl, ?_⟩
        obtain ⟨g1, g2, g3⟩ := ld_ok (i + 1) (by omega)
        have dt : DT H5 (.ref lw) (.list (ld (i + 1))) := .lst hw5 dt_lv
        refine ⟨.list (ld (i + 1)), .list (ld (i + 1)), dt.dp g1, dt.dp g1, g3, g3, _, rfl, ?_⟩
        rw [g2]
        refine iteF ?_
        exact ⟨⟨_, _, rfl⟩, .inr ⟨lw, rfl, hw5⟩⟩
  · rintro σ G0 ⟨⟨x3, x4, rfl⟩, -⟩
    refine fun d0 hd0 e0 he0 => ⟨e0, a0, d0, _, .non, rfl, upd_same, (T.xfc 0 (by decide)).1, (T.xfc 0 (by decide)).2, same_new he0 _ _ upd_same, by simp [List.lookup], ?_⟩
    refine fun d1 hd1 e1 he1 => ⟨e1, a1, d1, _, .non, rfl, upd_same, (T.xfc 1 (by decide)).1, (T.xfc 1 (by decide)).2, same_new he1 _ _ upd_same, by simp [List.lookup], ?_⟩
    refine fun d2 hd2 e2 he2 => ⟨e2, a2, d2, _, .non, rfl, upd_same, (T.xfc 2 (by decide)).1, (T.xfc 2 (by decide)).2, same_new he2 _ _ upd_same, by simp [List.lookup], ?_⟩
    refine fun d3 hd3 e3 he3 => ⟨e3, a3, d3, _, .non, rfl, upd_same, (T.xfc 3 (by decide)).1, (T.xfc 3 (by decide)).2, same_new he3 _ _ upd_same, by simp [List.lookup], ?_⟩
    refine fun d4 hd4 e4 he4 => ⟨e4, a4, d4, _, .non, rfl, upd_same, (T.xfc 4 (by decide)).1, (T.xfc 4 (by decide)).2, same_new he4 _ _ upd_same, by simp [List.lookup], ?_⟩
    refine fun d5 hd5 e5 he5 => ⟨e5, a5, d5, _, .non, rfl, upd_same, (T.xfc 5 (by decide)).1, (T.xfc 5 (by decide)).2, same_new he5 _ _ upd_same, by simp [List.lookup], ?_⟩
    refine ⟨(show 6 ≤ sizeLine by decide), fun m0 w0 => ?_⟩
    refine ⟨_, rfl, ?_⟩
    refine fun d6 hd6 e6 he6 => ⟨e6, a6, d6, _, .non, rfl, upd_same, (T.xfc 6 (by decide)).1, (T.xfc 6 (by decide)).2, same_new he6 _ _ upd_same, by simp [List.lookup], ?_⟩
    refine fun d7 hd7 e7 he7 => ⟨e7, a7, d7, _, .non, rfl, upd_same, (T.xfc 7 (by decide)).1, (T.xfc 7 (by decide)).2, same_new he7 _ _ upd_same, by simp [List.lookup], ?_⟩
    refine fun d8 hd8 e8 he8 => ⟨e8, a8, d8, _, .non, rfl, upd_same, (T.xfc 8 (by decide)).1, (T.xfc 8 (by decide)).2, same_new he8 _ _ upd_same, by simp [List.lookup], ?_⟩
    refine fun d9 hd9 e9 he9 => ⟨e9, a9, d9, _, .non, rfl, upd_same, (T.xfc 9 (by decide)).1, (T.xfc 9 (by decide)).2, same_new he9 _ _ upd_same, by simp [List.lookup], ?_⟩
    refine fun d10 hd10 e10 he10 => ⟨e10, a10, d10, _, .non, rfl, upd_same, (T.xfc 10 (by decide)).1, (T.xfc 10 (by decide)).2, same_new he10 _ _ upd_same, by simp [List.lookup], ?_⟩
    refine ⟨(show 5 ≤ sizeLine by decide), fun v1 z1 => ?_⟩
    refine ⟨_, _, _, _, rfl, rfl, (((((((same_new hd6).trans (same_new he6)).trans ((same_new hd7).trans (same_new he7))).trans ((same_new hd8).trans (same_new he8))).trans ((same_new hd9).trans (same_new he9))).trans ((same_new hd10).trans (same_new he10))).trans (same_new z1)) _ _ upd_same, upd_same, (by show 6 + 5 ≤ sizeLine; decide), fun m1 w1 => ?_⟩
    refine ⟨_, rfl, ?_⟩
    refine fun d11 hd11 e11 he11 => ⟨e11, a11, d11, _, .non, rfl, upd_same, (T.xfc 11 (by decide)).1, (T.xfc 11 (by decide)).2, same_new he11 _ _ upd_same, by simp [List.lookup], ?_⟩
    refine fun d12 hd12 e12 he12 => ⟨e12, a12, d12, _, .non, rfl, upd_same, (T.xfc 12 (by decide)).1, (T.xfc 12 (by decide)).2, same_new he12 _ _ upd_same, by simp [List.lookup], ?_⟩
    refine fun d13 hd13 e13 he13 => ⟨e13, a13, d13, _, .non, rfl, upd_same, (T.xfc 13 (by decide)).1, (T.xfc 13 (by decide)).2, same_new he13 _ _ upd_same, by simp [List.lookup], ?_⟩
    refine fun d14 hd14 e14 he14 => ⟨e14, a14, d14, _, .non, rfl, upd_same, (T.xfc 14 (by decide)).1, (T.xfc 14 (by decide)).2, same_new he14 _ _ upd_same, by simp [List.lookup], ?_⟩
    refine ⟨(show 4 ≤ sizeLine by decide), fun v2 z2 => ?_⟩
    refine ⟨_, _, _, _, rfl, rfl, ((((((same_new hd11).trans (same_new he11)).trans ((same_new hd12).trans (same_new he12))).trans ((same_new hd13).trans (same_new he13))).trans ((same_new hd14).trans (same_new he14))).trans (same_new z2)) _ _ upd_same, upd_same, (by show 11 + 4 ≤ sizeLine; decide), fun m2 w2 => ?_⟩
    refine ⟨_, rfl, _, rfl, ⟨_, SqL.of upd_same⟩, fun D hD => lc_list (xs := List.replicate 15 V.non) (fun j H' => H' m2 = some (.lst (List.replicate 15 V.non)) ∧ H' D = some (.lst [])) ⟨same_new hD _ _ upd_same, upd_same⟩ (fun j H' _ z => SqL.of z.1) ?_ ?_⟩
    · rintro j x H' hx ⟨s1, e1⟩
      have ex : x = .non := List.eq_of_mem_replicate (List.mem_of_getElem? hx)
      subst ex
      refine ⟨rfl, ?_⟩
      exact ⟨_, rfl, rfl, _, rfl, iteF ⟨s1, e1⟩⟩
    rintro H2 ⟨s1, e1⟩
    refine ⟨(show 0 ≤ sizeLine by decide), fun k1 j1 => ?_⟩
    refine ⟨.list [], .list [], (DT.lst (same_new j1 _ _ e1) .nil).dp (by decide +kernel), (DT.lst upd_same .nil).dp (by decide +kernel), by decide +kernel, by decide +kernel, _, rfl, ?_⟩
    rw [show PyData.eqv (.list []) (.list []) = true by decide +kernel]
    refine iteF ?_
    refine ⟨_, rfl, fun d14 hd14 e14 he14 => ⟨e14, a14, d14, _, .int 7, rfl, upd_same, (T.xfc 14 (by decide)).1, (T.xfc 14 (by decide)).2, same_new he14 _ _ upd_same, by simp [List.lookup], rfl, _, rfl, neN ?_⟩⟩
    refine ⟨(show 1 ≤ sizeLine by decide), fun k2 j2 => ?_⟩
    refine ⟨_, rfl, fun d4 hd4 e4 he4 => ⟨e4, a4, d4, _, .ref k2, rfl, upd_same, (T.xfc 4 (by decide)).1, (T.xfc 4 (by decide)).2, same_new he4 _ _ upd_same, by simp [List.lookup], ?_⟩⟩
    refine ⟨(show 1 ≤ sizeLine by decide), fun k3 j3 => ?_⟩
    refine ⟨.tuple [.int 1], .tuple [.int 1], (DT.tup (((same_new hd4).trans (same_new he4)).trans (same_new j3) _ _ upd_same) (.cons (.int _) .nil)).dp (by decide +kernel), (DT.tup upd_same (.cons (.int _) .nil)).dp (by decide +kernel), by decide +kernel, by decide +kernel, _, rfl, ?_⟩
    rw [show PyData.eqv (.tuple [.int 1]) (.tuple [.int 1]) = true by decide +kernel]
    refine iteF ?_
    refine fun e15 he15 => ⟨15, e15, rfl, by decide, ⟨T.exc 15 (by decide), .inl upd_same⟩, fun l15 G15 s15 hl15 => ?_⟩
    refine ⟨17, rfl, by decide, by decide, fun D15 hD15 => lc_mapW walk_range (ys := fl17 15) (fun _ _ => trivial) (fun j H x H' y => y.1) hD15 rfl (by decide) ?_ ?_⟩
    · rintro j x y H4 Q4 s4 ⟨_, rfl⟩ hy q4
      rw [fl_y (z := 15) rfl hy] at q4
      exact ⟨_, rfl, rfl, q4 _ (Same.refl _)⟩
    intro F15 t15 c15
    obtain ⟨f1, f2, f3⟩ := fl_ok 15 (by decide)
    refine ⟨.list (flB 15), .list (flB 15), (DT.lst (t15 _ _ hl15) dt_fl).dp f1, (DT.lst c15 dt_fl).dp f1, f3, f3, _, rfl, ?_⟩
    rw [f2]
    refine iteF ?_
    refine fun e16 he16 => ⟨16, e16, rfl, by decide, ⟨T.exc 16 (by decide), .inl upd_same⟩, fun l16 G16 s16 hl16 => ?_⟩
    refine ⟨17, rfl, by decide, by decide, fun D16 hD16 => lc_mapW walk_range (ys := fl17 16) (fun _ _ => trivial) (fun j H x H' y => y.1) hD16 rfl (by decide) ?_ ?_⟩
    · rintro j x y H4 Q4 s4 ⟨_, rfl⟩ hy q4
      rw [fl_y (z := 16) rfl hy] at q4
      exact ⟨_, rfl, rfl, q4 _ (Same.refl _)⟩
    intro F16 t16 c16
    obtain ⟨f1, f2, f3⟩ := fl_ok 16 (by decide)
    refine ⟨.list (flB 16), .list (flB 16), (DT.lst (t16 _ _ hl16) dt_fl).dp f1, (DT.lst c16 dt_fl).dp f1, f3, f3, _, rfl, ?_⟩
    rw [f2]
    refine iteF ?_
    refine fun b15 g15 => isin ⟨T.exc 15 (by decide), .inl upd_same⟩ (.own _) (T.kitB 15 (by decide)) ⟨_, rfl, iteT ?_⟩
    refine fun b16 g16 => isin ⟨T.exc 16 (by decide), .inl upd_same⟩ (.own _) (T.kitB 16 (by decide)) ⟨_, rfl, iteT ?_⟩
    exact fun b17 g17 => isin ⟨T.excB, .inl upd_same⟩ (.ty _) T.kitBV (q _)

end
end Cb
set_option Elab.async false
set_option linter.all false
set_option maxRecDepth 100000
set_option maxHeartbeats 8000000
namespace Cb
open PySem PySem.Spec PyProof.Rows L2 ExS
section
variable {P : Program} {w : World} {K : PySem.W.Frag} {mg : Str → Option Value} {base : Heap} {a0 a1 a2 a3 a4 a5 a6 a7 a8 a9 a10 a11 a12 a13 a14 a15 a16 CB : Addr}
theorem ends {l : PySem.W.OpenLaw} {fa : Addr} (hfa : mg "law" = some (.ref fa)) (T : TX l.prog K mg a0 a1 a2 a3 a4 a5 a6 a7 a8 a9 a10 a11 a12 a13 a14 a15 a16 CB) (dl : Has K mg "law" s_law ["_law_script"]) :
    ∃ fd : FuncData, (∀ (s : Shared) (u : Value), BindsTo s fd ⟨[u], []⟩ [("_law_script", u)]) ∧ ∀ base : Heap, K.In base → base.Ns mainGlobals mg → FnG l.prog w K mg base CX0 6 fa fd ["_law_script"] (sp_law K) := by
  obtain ⟨f, fd, F, hm, _⟩ := dl
  obtain rfl : f = fa := Value.ref.inj (Option.some.inj (hm.symm.trans hfa))
  refine ⟨fd, ?_, fun base _ _ => c_law T F⟩
  obtain ⟨oc, od, kV, doc, pm, an, cdv, ct, osl, rfl, lk, hcd⟩ := F.ex
  exact fun s u => .of_eq rfl
theorem kit_V {t : Addr} (h : PySem.W.subIn K (.ref t) (.type "ValueError") = some true) : PySem.W.kitOne K (.ref t) (.type "ValueError") = some true := by
  have e : PySem.W.kitMeta "ValueError" = true := by decide +kernel
  show (if (Value.ref t == Value.type "ValueError") = true then some true else (if PySem.W.kitMeta "ValueError" = true then PySem.W.subIn K (.ref t) (.type "ValueError") else none)) = some true
  rw [if_neg (by intro z; cases z), if_pos e]
  exact h
theorem bare_mk {x : Str} {h : Heap} (X : K.In h) (G : h.Ns mainGlobals mg) {C DB fB cdaB ccB N : Addr} {nm q qB nB fiB : Str} {bs bm sub : List Value} {hdct ab : Bool} {sn : List Str} {col : Option Bool} {dd odB anB cdB clB : Option Addr}
    {k0 k1 k2 k3 k5 : Option Value} {dVB kVB docB pmB ctB cB uB : Value} {oslB csB slB : Array (Option Value)} {vB : Array Value} {tB : Tok} {cdC cdD : ClassData} {parB : Arguments} {r0 r1 r2 r3 r4 : Pos}
    (a : PySem.W.nsIn K mainGlobals x = some (some (.ref C)))
    (cls : K.lookup C = some (excClassObj nm q C N bs bm hdct sn sub ab col dd k0 k1 k2 k3 k5 "ValueError.__new__")) (ve : PySem.HandSPX.refsVE bm = true)
    (iB : PySem.W.findIn K (.ref C) "__init__" = some (some (.ref fB))) (tf : PySem.W.typeIn K (.ref fB) = some (.type "function"))
    (lB : K.lookup fB = some ⟨.type "function", odB, .func (PySem.W.ksFn nB qB parB [bSup r0 r1 r2 r3 r4] scB dVB kVB docB pmB anB (.ref cdaB) ctB ccB), oslB⟩) (coB : PySem.W.codeIn K (.ref cdaB) qB = true)
    (lcB : K.lookup cdaB = some ⟨cB, cdB, .fields vB, csB⟩) (vB2 : vB[2]? = some (.str fiB tB)) (feB : ((P.main.file : Str) == fiB) = true) (ceB : K.lookup ccB = some ⟨uB, clB, .cell (some (.ref DB)), slB⟩) (clC : PySem.W.clsIn K C = some cdC) (clD : PySem.W.clsIn K DB = some cdD)
    (tp : PySem.W.nsIn K cStatics "thirdparty.any" = some none) (sB : PySem.W.mroIn K C (.ref DB) = some true) (iV : PySem.W.ks_superIn K C DB "__init__" = some (some (.builtin "ValueError.__init__"))) (sV : PySem.W.subIn K (.ref C) (.type "ValueError") = some true)
    (ln2 : Line r0 r1 r2 r3) (hB : (parB.posonlyargs ++ parB.args).head?.map (·.arg) = some ("self" : Str))
    (bB : ∀ a : Addr, bindArgs (PySem.W.ksFn nB qB parB [bSup r0 r1 r2 r3 r4] scB dVB kVB docB pmB anB (.ref cdaB) ctB ccB) ⟨[.ref a], []⟩ = pure [(("self" : Str), Value.ref a)])
    (ns : NoSup P) (su : PySem.W.nsIn K mainGlobals "super" = some none) (kC : PySem.W.keepIn K (.ref C) = true) (exC : PySem.W.subIn K (.ref C) (.type "BaseException") = some true) (tyC : PySem.W.typeIn K (.ref C) = some (.type "type")) : BareX P K mg C x where
  ex := ⟨DB, fB, cdaB, ccB, qB, parB, _, r0, r1, r2, r3, r4, ⟨⟨nB, dVB, kVB, docB, pmB, ctB, odB, anB, oslB, rfl, lB⟩, coB, ⟨cB, cdB, vB, csB, fiB, tB, lcB, vB2, feB⟩, ⟨uB, clB, slB, ceB⟩, ⟨cdD, clD⟩⟩,
    ⟨⟨nm, q, N, bs, bm, hdct, sn, sub, ab, col, dd, k0, k1, k2, k3, k5, cls⟩, ⟨cdC, clC⟩, tp, sB, iV, sV⟩, ln2, hB, bB, iB, tf⟩
  cls := ⟨nm, q, N, bs, bm, hdct, sn, sub, ab, col, dd, k0, k1, k2, k3, k5, cls, ve⟩
  ns := ns
  sup := PySem.W.mg_none_of X G su
  gC := PySem.W.mg_of X G a
  kC := kC
  exC := exC
  tyC := tyC
theorem tx_mk (tg : TGen K mg)
    (d1 : Has K mg "_law_first" s_l_first ["_law_which", "_law_value"])
    (d2 : Has K mg "_law_second" s_l_second ["_law_which", "_law_value"])
    (d3 : Has K mg "_law_flags" s_l_flags ["_law_error"])
    (z1 : mg "isinstance" = none)
    (z2 : mg "ValueError" = none)
    (z3 : mg "list" = none)
    (b0 : BillX P K mg a0 "InvalidNumber")
    (b1 : BillX P K mg a1 "InvalidKind")
    (b2 : BillX P K mg a2 "InvalidValue")
    (b3 : BillX P K mg a3 "InvalidProgram")
    (b4 : BillX P K mg a4 "InvalidName")
    (b5 : BillX P K mg a5 "InvalidBill")
    (b6 : BillX P K mg a6 "InvalidPaper")
    (b7 : BillX P K mg a7 "InvalidRows")
    (b8 : BillX P K mg a8 "InvalidText")
    (b9 : BillX P K mg a9 "InvalidUnit")
    (b10 : BillX P K mg a10 "InvalidList")
    (b11 : BillX P K mg a11 "InvalidDeed")
    (b12 : BillX P K mg a12 "InvalidFlag")
    (b13 : BillX P K mg a13 "Unlike")
    (b14 : BillX P K mg a14 "TooMany")
    (b15 : BareX P K mg a15 "NothingToUndo")
    (b16 : BareX P K mg a16 "NothingToRedo")
    (bB : BareX P K mg CB "BillError")
    (x0 : ExcC K a0)
    (x1 : ExcC K a1)
    (x2 : ExcC K a2)
    (x3 : ExcC K a3)
    (x4 : ExcC K a4)
    (x5 : ExcC K a5)
    (x6 : ExcC K a6)
    (x7 : ExcC K a7)
    (x8 : ExcC K a8)
    (x9 : ExcC K a9)
    (x10 : ExcC K a10)
    (x11 : ExcC K a11)
    (x12 : ExcC K a12)
    (x13 : ExcC K a13)
    (x14 : ExcC K a14)
    (x15 : ExcC K a15)
    (x16 : ExcC K a16)
    (xB : ExcC K CB)
    (n0 : PySem.W.findIn K (.ref a0) "value" = some none)
    (n1 : PySem.W.findIn K (.ref a1) "value" = some none)
    (n2 : PySem.W.findIn K (.ref a2) "value" = some none)
    (n3 : PySem.W.findIn K (.ref a3) "value" = some none)
    (n4 : PySem.W.findIn K (.ref a4) "value" = some none)
    (n5 : PySem.W.findIn K (.ref a5) "value" = some none)
    (n6 : PySem.W.findIn K (.ref a6) "value" = some none)
    (n7 : PySem.W.findIn K (.ref a7) "value" = some none)
    (n8 : PySem.W.findIn K (.ref a8) "value" = some none)
    (n9 : PySem.W.findIn K (.ref a9) "value" = some none)
    (n10 : PySem.W.findIn K (.ref a10) "value" = some none)
    (n11 : PySem.W.findIn K (.ref a11) "value" = some none)
    (n12 : PySem.W.findIn K (.ref a12) "value" = some none)
    (n13 : PySem.W.findIn K (.ref a13) "value" = some none)
    (n14 : PySem.W.findIn K (.ref a14) "value" = some none)
    (ty0 : PySem.W.typeIn K (.ref a0) = some (.type "type"))
    (ty1 : PySem.W.typeIn K (.ref a1) = some (.type "type"))
    (ty2 : PySem.W.typeIn K (.ref a2) = some (.type "type"))
    (ty3 : PySem.W.typeIn K (.ref a3) = some (.type "type"))
    (ty4 : PySem.W.typeIn K (.ref a4) = some (.type "type"))
    (ty5 : PySem.W.typeIn K (.ref a5) = some (.type "type"))
    (ty6 : PySem.W.typeIn K (.ref a6) = some (.type "type"))
    (ty7 : PySem.W.typeIn K (.ref a7) = some (.type "type"))
    (ty8 : PySem.W.typeIn K (.ref a8) = some (.type "type"))
    (ty9 : PySem.W.typeIn K (.ref a9) = some (.type "type"))
    (ty10 : PySem.W.typeIn K (.ref a10) = some (.type "type"))
    (ty11 : PySem.W.typeIn K (.ref a11) = some (.type "type"))
    (ty12 : PySem.W.typeIn K (.ref a12) = some (.type "type"))
    (ty13 : PySem.W.typeIn K (.ref a13) = some (.type "type"))
    (ty14 : PySem.W.typeIn K (.ref a14) = some (.type "type"))
    (ty15 : PySem.W.typeIn K (.ref a15) = some (.type "type"))
    (ty16 : PySem.W.typeIn K (.ref a16) = some (.type "type"))
    (tyB : PySem.W.typeIn K (.ref CB) = some (.type "type"))
    (sB0 : PySem.W.subIn K (.ref a0) (.ref CB) = some true)
    (neB0 : (Value.ref a0 == Value.ref CB) = false)
    (sB1 : PySem.W.subIn K (.ref a1) (.ref CB) = some true)
    (neB1 : (Value.ref a1 == Value.ref CB) = false)
    (sB2 : PySem.W.subIn K (.ref a2) (.ref CB) = some true)
    (neB2 : (Value.ref a2 == Value.ref CB) = false)
    (sB3 : PySem.W.subIn K (.ref a3) (.ref CB) = some true)
    (neB3 : (Value.ref a3 == Value.ref CB) = false)
    (sB4 : PySem.W.subIn K (.ref a4) (.ref CB) = some true)
    (neB4 : (Value.ref a4 == Value.ref CB) = false)
    (sB5 : PySem.W.subIn K (.ref a5) (.ref CB) = some true)
    (neB5 : (Value.ref a5 == Value.ref CB) = false)
    (sB6 : PySem.W.subIn K (.ref a6) (.ref CB) = some true)
    (neB6 : (Value.ref a6 == Value.ref CB) = false)
    (sB7 : PySem.W.subIn K (.ref a7) (.ref CB) = some true)
    (neB7 : (Value.ref a7 == Value.ref CB) = false)
    (sB8 : PySem.W.subIn K (.ref a8) (.ref CB) = some true)
    (neB8 : (Value.ref a8 == Value.ref CB) = false)
    (sB9 : PySem.W.subIn K (.ref a9) (.ref CB) = some true)
    (neB9 : (Value.ref a9 == Value.ref CB) = false)
    (sB10 : PySem.W.subIn K (.ref a10) (.ref CB) = some true)
    (neB10 : (Value.ref a10 == Value.ref CB) = false)
    (sB11 : PySem.W.subIn K (.ref a11) (.ref CB) = some true)
    (neB11 : (Value.ref a11 == Value.ref CB) = false)
    (sB12 : PySem.W.subIn K (.ref a12) (.ref CB) = some true)
    (neB12 : (Value.ref a12 == Value.ref CB) = false)
    (sB13 : PySem.W.subIn K (.ref a13) (.ref CB) = some true)
    (neB13 : (Value.ref a13 == Value.ref CB) = false)
    (sB14 : PySem.W.subIn K (.ref a14) (.ref CB) = some true)
    (neB14 : (Value.ref a14 == Value.ref CB) = false)
    (sB15 : PySem.W.subIn K (.ref a15) (.ref CB) = some true)
    (neB15 : (Value.ref a15 == Value.ref CB) = false)
    (sB16 : PySem.W.subIn K (.ref a16) (.ref CB) = some true)
    (neB16 : (Value.ref a16 == Value.ref CB) = false)
    (sV0 : PySem.W.subIn K (.ref a0) (.type "ValueError") = some true)
    (sV1 : PySem.W.subIn K (.ref a1) (.type "ValueError") = some true)
    (sV2 : PySem.W.subIn K (.ref a2) (.type "ValueError") = some true)
    (sV3 : PySem.W.subIn K (.ref a3) (.type "ValueError") = some true)
    (sV4 : PySem.W.subIn K (.ref a4) (.type "ValueError") = some true)
    (sV5 : PySem.W.subIn K (.ref a5) (.type "ValueError") = some true)
    (sV6 : PySem.W.subIn K (.ref a6) (.type "ValueError") = some true)
    (sV7 : PySem.W.subIn K (.ref a7) (.type "ValueError") = some true)
    (sV8 : PySem.W.subIn K (.ref a8) (.type "ValueError") = some true)
    (sV9 : PySem.W.subIn K (.ref a9) (.type "ValueError") = some true)
    (sV10 : PySem.W.subIn K (.ref a10) (.type "ValueError") = some true)
    (sV11 : PySem.W.subIn K (.ref a11) (.type "ValueError") = some true)
    (sV12 : PySem.W.subIn K (.ref a12) (.type "ValueError") = some true)
    (sV13 : PySem.W.subIn K (.ref a13) (.type "ValueError") = some true)
    (sV14 : PySem.W.subIn K (.ref a14) (.type "ValueError") = some true)
    (sV15 : PySem.W.subIn K (.ref a15) (.type "ValueError") = some true)
    (sV16 : PySem.W.subIn K (.ref a16) (.type "ValueError") = some true)
    (sVB : PySem.W.subIn K (.ref CB) (.type "ValueError") = some true)
    (e0 : (Value.ref a0 == Value.ref a0) = true)
    (s0_1 : PySem.W.subIn K (.ref a0) (.ref a1) = some false)
    (ne0_1 : (Value.ref a0 == Value.ref a1) = false)
    (s0_2 : PySem.W.subIn K (.ref a0) (.ref a2) = some false)
    (ne0_2 : (Value.ref a0 == Value.ref a2) = false)
    (s0_3 : PySem.W.subIn K (.ref a0) (.ref a3) = some false)
    (ne0_3 : (Value.ref a0 == Value.ref a3) = false)
    (s0_4 : PySem.W.subIn K (.ref a0) (.ref a4) = some false)
    (ne0_4 : (Value.ref a0 == Value.ref a4) = false)
    (s0_5 : PySem.W.subIn K (.ref a0) (.ref a5) = some false)
    (ne0_5 : (Value.ref a0 == Value.ref a5) = false)
    (s0_6 : PySem.W.subIn K (.ref a0) (.ref a6) = some false)
    (ne0_6 : (Value.ref a0 == Value.ref a6) = false)
    (s0_7 : PySem.W.subIn K (.ref a0) (.ref a7) = some false)
    (ne0_7 : (Value.ref a0 == Value.ref a7) = false)
    (s0_8 : PySem.W.subIn K (.ref a0) (.ref a8) = some false)
    (ne0_8 : (Value.ref a0 == Value.ref a8) = false)
    (s0_9 : PySem.W.subIn K (.ref a0) (.ref a9) = some false)
    (ne0_9 : (Value.ref a0 == Value.ref a9) = false)
    (s0_10 : PySem.W.subIn K (.ref a0) (.ref a10) = some false)
    (ne0_10 : (Value.ref a0 == Value.ref a10) = false)
    (s0_11 : PySem.W.subIn K (.ref a0) (.ref a11) = some false)
    (ne0_11 : (Value.ref a0 == Value.ref a11) = false)
    (s0_12 : PySem.W.subIn K (.ref a0) (.ref a12) = some false)
    (ne0_12 : (Value.ref a0 == Value.ref a12) = false)
    (s0_13 : PySem.W.subIn K (.ref a0) (.ref a13) = some false)
    (ne0_13 : (Value.ref a0 == Value.ref a13) = false)
    (s0_14 : PySem.W.subIn K (.ref a0) (.ref a14) = some false)
    (ne0_14 : (Value.ref a0 == Value.ref a14) = false)
    (s0_15 : PySem.W.subIn K (.ref a0) (.ref a15) = some false)
    (ne0_15 : (Value.ref a0 == Value.ref a15) = false)
    (s0_16 : PySem.W.subIn K (.ref a0) (.ref a16) = some false)
    (ne0_16 : (Value.ref a0 == Value.ref a16) = false)
    (e1 : (Value.ref a1 == Value.ref a1) = true)
    (s1_0 : PySem.W.subIn K (.ref a1) (.ref a0) = some false)
    (ne1_0 : (Value.ref a1 == Value.ref a0) = false)
    (s1_2 : PySem.W.subIn K (.ref a1) (.ref a2) = some false)
    (ne1_2 : (Value.ref a1 == Value.ref a2) = false)
    (s1_3 : PySem.W.subIn K (.ref a1) (.ref a3) = some false)
    (ne1_3 : (Value.ref a1 == Value.ref a3) = false)
    (s1_4 : PySem.W.subIn K (.ref a1) (.ref a4) = some false)
    (ne1_4 : (Value.ref a1 == Value.ref a4) = false)
    (s1_5 : PySem.W.subIn K (.ref a1) (.ref a5) = some false)
    (ne1_5 : (Value.ref a1 == Value.ref a5) = false)
    (s1_6 : PySem.W.subIn K (.ref a1) (.ref a6) = some false)
    (ne1_6 : (Value.ref a1 == Value.ref a6) = false)
    (s1_7 : PySem.W.subIn K (.ref a1) (.ref a7) = some false)
    (ne1_7 : (Value.ref a1 == Value.ref a7) = false)
    (s1_8 : PySem.W.subIn K (.ref a1) (.ref a8) = some false)
    (ne1_8 : (Value.ref a1 == Value.ref a8) = false)
    (s1_9 : PySem.W.subIn K (.ref a1) (.ref a9) = some false)
    (ne1_9 : (Value.ref a1 == Value.ref a9) = false)
    (s1_10 : PySem.W.subIn K (.ref a1) (.ref a10) = some false)
    (ne1_10 : (Value.ref a1 == Value.ref a10) = false)
    (s1_11 : PySem.W.subIn K (.ref a1) (.ref a11) = some false)
    (ne1_11 : (Value.ref a1 == Value.ref a11) = false)
    (s1_12 : PySem.W.subIn K (.ref a1) (.ref a12) = some false)
    (ne1_12 : (Value.ref a1 == Value.ref a12) = false)
    (s1_13 : PySem.W.subIn K (.ref a1) (.ref a13) = some false)
    (ne1_13 : (Value.ref a1 == Value.ref a13) = false)
    (s1_14 : PySem.W.subIn K (.ref a1) (.ref a14) = some false)
    (ne1_14 : (Value.ref a1 == Value.ref a14) = false)
    (s1_15 : PySem.W.subIn K (.ref a1) (.ref a15) = some false)
    (ne1_15 : (Value.ref a1 == Value.ref a15) = false)
    (s1_16 : PySem.W.subIn K (.ref a1) (.ref a16) = some false)
    (ne1_16 : (Value.ref a1 == Value.ref a16) = false)
    (e2 : (Value.ref a2 == Value.ref a2) = true)
    (s2_0 : PySem.W.subIn K (.ref a2) (.ref a0) = some false)
    (ne2_0 : (Value.ref a2 == Value.ref a0) = false)
    (s2_1 : PySem.W.subIn K (.ref a2) (.ref a1) = some false)
    (ne2_1 : (Value.ref a2 == Value.ref a1) = false)
    (s2_3 : PySem.W.subIn K (.ref a2) (.ref a3) = some false)
    (ne2_3 : (Value.ref a2 == Value.ref a3) = false)
    (s2_4 : PySem.W.subIn K (.ref a2) (.ref a4) = some false)
    (ne2_4 : (Value.ref a2 == Value.ref a4) = false)
    (s2_5 : PySem.W.subIn K (.ref a2) (.ref a5) = some false)
    (ne2_5 : (Value.ref a2 == Value.ref a5) = false)
    (s2_6 : PySem.W.subIn K (.ref a2) (.ref a6) = some false)
    (ne2_6 : (Value.ref a2 == Value.ref a6) = false)
    (s2_7 : PySem.W.subIn K (.ref a2) (.ref a7) = some false)
    (ne2_7 : (Value.ref a2 == Value.ref a7) = false)
    (s2_8 : PySem.W.subIn K (.ref a2) (.ref a8) = some false)
    (ne2_8 : (Value.ref a2 == Value.ref a8) = false)
    (s2_9 : PySem.W.subIn K (.ref a2) (.ref a9) = some false)
    (ne2_9 : (Value.ref a2 == Value.ref a9) = false)
    (s2_10 : PySem.W.subIn K (.ref a2) (.ref a10) = some false)
    (ne2_10 : (Value.ref a2 == Value.ref a10) = false)
    (s2_11 : PySem.W.subIn K (.ref a2) (.ref a11) = some false)
    (ne2_11 : (Value.ref a2 == Value.ref a11) = false)
    (s2_12 : PySem.W.subIn K (.ref a2) (.ref a12) = some false)
    (ne2_12 : (Value.ref a2 == Value.ref a12) = false)
    (s2_13 : PySem.W.subIn K (.ref a2) (.ref a13) = some false)
    (ne2_13 : (Value.ref a2 == Value.ref a13) = false)
    (s2_14 : PySem.W.subIn K (.ref a2) (.ref a14) = some false)
    (ne2_14 : (Value.ref a2 == Value.ref a14) = false)
    (s2_15 : PySem.W.subIn K (.ref a2) (.ref a15) = some false)
    (ne2_15 : (Value.ref a2 == Value.ref a15) = false)
    (s2_16 : PySem.W.subIn K (.ref a2) (.ref a16) = some false)
    (ne2_16 : (Value.ref a2 == Value.ref a16) = false)
    (e3 : (Value.ref a3 == Value.ref a3) = true)
    (s3_0 : PySem.W.subIn K (.ref a3) (.ref a0) = some false)
    (ne3_0 : (Value.ref a3 == Value.ref a0) = false)
    (s3_1 : PySem.W.subIn K (.ref a3) (.ref a1) = some false)
    (ne3_1 : (Value.ref a3 == Value.ref a1) = false)
    (s3_2 : PySem.W.subIn K (.ref a3) (.ref a2) = some false)
    (ne3_2 : (Value.ref a3 == Value.ref a2) = false)
    (s3_4 : PySem.W.subIn K (.ref a3) (.ref a4) = some false)
    (ne3_4 : (Value.ref a3 == Value.ref a4) = false)
    (s3_5 : PySem.W.subIn K (.ref a3) (.ref a5) = some false)
    (ne3_5 : (Value.ref a3 == Value.ref a5) = false)
    (s3_6 : PySem.W.subIn K (.ref a3) (.ref a6) = some false)
    (ne3_6 : (Value.ref a3 == Value.ref a6) = false)
    (s3_7 : PySem.W.subIn K (.ref a3) (.ref a7) = some false)
    (ne3_7 : (Value.ref a3 == Value.ref a7) = false)
    (s3_8 : PySem.W.subIn K (.ref a3) (.ref a8) = some false)
    (ne3_8 : (Value.ref a3 == Value.ref a8) = false)
    (s3_9 : PySem.W.subIn K (.ref a3) (.ref a9) = some false)
    (ne3_9 : (Value.ref a3 == Value.ref a9) = false)
    (s3_10 : PySem.W.subIn K (.ref a3) (.ref a10) = some false)
    (ne3_10 : (Value.ref a3 == Value.ref a10) = false)
    (s3_11 : PySem.W.subIn K (.ref a3) (.ref a11) = some false)
    (ne3_11 : (Value.ref a3 == Value.ref a11) = false)
    (s3_12 : PySem.W.subIn K (.ref a3) (.ref a12) = some false)
    (ne3_12 : (Value.ref a3 == Value.ref a12) = false)
    (s3_13 : PySem.W.subIn K (.ref a3) (.ref a13) = some false)
    (ne3_13 : (Value.ref a3 == Value.ref a13) = false)
    (s3_14 : PySem.W.subIn K (.ref a3) (.ref a14) = some false)
    (ne3_14 : (Value.ref a3 == Value.ref a14) = false)
    (s3_15 : PySem.W.subIn K (.ref a3) (.ref a15) = some false)
    (ne3_15 : (Value.ref a3 == Value.ref a15) = false)
    (s3_16 : PySem.W.subIn K (.ref a3) (.ref a16) = some false)
    (ne3_16 : (Value.ref a3 == Value.ref a16) = false)
    (e4 : (Value.ref a4 == Value.ref a4) = true)
    (s4_0 : PySem.W.subIn K (.ref a4) (.ref a0) = some false)
    (ne4_0 : (Value.ref a4 == Value.ref a0) = false)
    (s4_1 : PySem.W.subIn K (.ref a4) (.ref a1) = some false)
    (ne4_1 : (Value.ref a4 == Value.ref a1) = false)
    (s4_2 : PySem.W.subIn K (.ref a4) (.ref a2) = some false)
    (ne4_2 : (Value.ref a4 == Value.ref a2) = false)
    (s4_3 : PySem.W.subIn K (.ref a4) (.ref a3) = some false)
    (ne4_3 : (Value.ref a4 == Value.ref a3) = false)
    (s4_5 : PySem.W.subIn K (.ref a4) (.ref a5) = some false)
    (ne4_5 : (Value.ref a4 == Value.ref a5) = false)
    (s4_6 : PySem.W.subIn K (.ref a4) (.ref a6) = some false)
    (ne4_6 : (Value.ref a4 == Value.ref a6) = false)
    (s4_7 : PySem.W.subIn K (.ref a4) (.ref a7) = some false)
    (ne4_7 : (Value.ref a4 == Value.ref a7) = false)
    (s4_8 : PySem.W.subIn K (.ref a4) (.ref a8) = some false)
    (ne4_8 : (Value.ref a4 == Value.ref a8) = false)
    (s4_9 : PySem.W.subIn K (.ref a4) (.ref a9) = some false)
    (ne4_9 : (Value.ref a4 == Value.ref a9) = false)
    (s4_10 : PySem.W.subIn K (.ref a4) (.ref a10) = some false)
    (ne4_10 : (Value.ref a4 == Value.ref a10) = false)
    (s4_11 : PySem.W.subIn K (.ref a4) (.ref a11) = some false)
    (ne4_11 : (Value.ref a4 == Value.ref a11) = false)
    (s4_12 : PySem.W.subIn K (.ref a4) (.ref a12) = some false)
    (ne4_12 : (Value.ref a4 == Value.ref a12) = false)
    (s4_13 : PySem.W.subIn K (.ref a4) (.ref a13) = some false)
    (ne4_13 : (Value.ref a4 == Value.ref a13) = false)
    (s4_14 : PySem.W.subIn K (.ref a4) (.ref a14) = some false)
    (ne4_14 : (Value.ref a4 == Value.ref a14) = false)
    (s4_15 : PySem.W.subIn K (.ref a4) (.ref a15) = some false)
    (ne4_15 : (Value.ref a4 == Value.ref a15) = false)
    (s4_16 : PySem.W.subIn K (.ref a4) (.ref a16) = some false)
    (ne4_16 : (Value.ref a4 == Value.ref a16) = false)
    (e5 : (Value.ref a5 == Value.ref a5) = true)
    (s5_0 : PySem.W.subIn K (.ref a5) (.ref a0) = some false)
    (ne5_0 : (Value.ref a5 == Value.ref a0) = false)
    (s5_1 : PySem.W.subIn K (.ref a5) (.ref a1) = some false)
    (ne5_1 : (Value.ref a5 == Value.ref a1) = false)
    (s5_2 : PySem.W.subIn K (.ref a5) (.ref a2) = some false)
    (ne5_2 : (Value.ref a5 == Value.ref a2) = false)
    (s5_3 : PySem.W.subIn K (.ref a5) (.ref a3) = some false)
    (ne5_3 : (Value.ref a5 == Value.ref a3) = false)
    (s5_4 : PySem.W.subIn K (.ref a5) (.ref a4) = some false)
    (ne5_4 : (Value.ref a5 == Value.ref a4) = false)
    (s5_6 : PySem.W.subIn K (.ref a5) (.ref a6) = some false)
    (ne5_6 : (Value.ref a5 == Value.ref a6) = false)
    (s5_7 : PySem.W.subIn K (.ref a5) (.ref a7) = some false)
    (ne5_7 : (Value.ref a5 == Value.ref a7) = false)
    (s5_8 : PySem.W.subIn K (.ref a5) (.ref a8) = some false)
    (ne5_8 : (Value.ref a5 == Value.ref a8) = false)
    (s5_9 : PySem.W.subIn K (.ref a5) (.ref a9) = some false)
    (ne5_9 : (Value.ref a5 == Value.ref a9) = false)
    (s5_10 : PySem.W.subIn K (.ref a5) (.ref a10) = some false)
    (ne5_10 : (Value.ref a5 == Value.ref a10) = false)
    (s5_11 : PySem.W.subIn K (.ref a5) (.ref a11) = some false)
    (ne5_11 : (Value.ref a5 == Value.ref a11) = false)
    (s5_12 : PySem.W.subIn K (.ref a5) (.ref a12) = some false)
    (ne5_12 : (Value.ref a5 == Value.ref a12) = false)
    (s5_13 : PySem.W.subIn K (.ref a5) (.ref a13) = some false)
    (ne5_13 : (Value.ref a5 == Value.ref a13) = false)
    (s5_14 : PySem.W.subIn K (.ref a5) (.ref a14) = some false)
    (ne5_14 : (Value.ref a5 == Value.ref a14) = false)
    (s5_15 : PySem.W.subIn K (.ref a5) (.ref a15) = some false)
    (ne5_15 : (Value.ref a5 == Value.ref a15) = false)
    (s5_16 : PySem.W.subIn K (.ref a5) (.ref a16) = some false)
    (ne5_16 : (Value.ref a5 == Value.ref a16) = false)
    (e6 : (Value.ref a6 == Value.ref a6) = true)
    (s6_0 : PySem.W.subIn K (.ref a6) (.ref a0) = some false)
    (ne6_0 : (Value.ref a6 == Value.ref a0) = false)
    (s6_1 : PySem.W.subIn K (.ref a6) (.ref a1) = some false)
    (ne6_1 : (Value.ref a6 == Value.ref a1) = false)
    (s6_2 : PySem.W.subIn K (.ref a6) (.ref a2) = some false)
    (ne6_2 : (Value.ref a6 == Value.ref a2) = false)
    (s6_3 : PySem.W.subIn K (.ref a6) (.ref a3) = some false)
    (ne6_3 : (Value.ref a6 == Value.ref a3) = false)
    (s6_4 : PySem.W.subIn K (.ref a6) (.ref a4) = some false)
    (ne6_4 : (Value.ref a6 == Value.ref a4) = false)
    (s6_5 : PySem.W.subIn K (.ref a6) (.ref a5) = some false)
    (ne6_5 : (Value.ref a6 == Value.ref a5) = false)
    (s6_7 : PySem.W.subIn K (.ref a6) (.ref a7) = some false)
    (ne6_7 : (Value.ref a6 == Value.ref a7) = false)
    (s6_8 : PySem.W.subIn K (.ref a6) (.ref a8) = some false)
    (ne6_8 : (Value.ref a6 == Value.ref a8) = false)
    (s6_9 : PySem.W.subIn K (.ref a6) (.ref a9) = some false)
    (ne6_9 : (Value.ref a6 == Value.ref a9) = false)
    (s6_10 : PySem.W.subIn K (.ref a6) (.ref a10) = some false)
    (ne6_10 : (Value.ref a6 == Value.ref a10) = false)
    (s6_11 : PySem.W.subIn K (.ref a6) (.ref a11) = some false)
    (ne6_11 : (Value.ref a6 == Value.ref a11) = false)
    (s6_12 : PySem.W.subIn K (.ref a6) (.ref a12) = some false)
    (ne6_12 : (Value.ref a6 == Value.ref a12) = false)
    (s6_13 : PySem.W.subIn K (.ref a6) (.ref a13) = some false)
    (ne6_13 : (Value.ref a6 == Value.ref a13) = false)
    (s6_14 : PySem.W.subIn K (.ref a6) (.ref a14) = some false)
    (ne6_14 : (Value.ref a6 == Value.ref a14) = false)
    (s6_15 : PySem.W.subIn K (.ref a6) (.ref a15) = some false)
    (ne6_15 : (Value.ref a6 == Value.ref a15) = false)
    (s6_16 : PySem.W.subIn K (.ref a6) (.ref a16) = some false)
    (ne6_16 : (Value.ref a6 == Value.ref a16) = false)
    (e7 : (Value.ref a7 == Value.ref a7) = true)
    (s7_0 : PySem.W.subIn K (.ref a7) (.ref a0) = some false)
    (ne7_0 : (Value.ref a7 == Value.ref a0) = false)
    (s7_1 : PySem.W.subIn K (.ref a7) (.ref a1) = some false)
    (ne7_1 : (Value.ref a7 == Value.ref a1) = false)
    (s7_2 : PySem.W.subIn K (.ref a7) (.ref a2) = some false)
    (ne7_2 : (Value.ref a7 == Value.ref a2) = false)
    (s7_3 : PySem.W.subIn K (.ref a7) (.ref a3) = some false)
    (ne7_3 : (Value.ref a7 == Value.ref a3) = false)
    (s7_4 : PySem.W.subIn K (.ref a7) (.ref a4) = some false)
    (ne7_4 : (Value.ref a7 == Value.ref a4) = false)
    (s7_5 : PySem.W.subIn K (.ref a7) (.ref a5) = some false)
    (ne7_5 : (Value.ref a7 == Value.ref a5) = false)
    (s7_6 : PySem.W.subIn K (.ref a7) (.ref a6) = some false)
    (ne7_6 : (Value.ref a7 == Value.ref a6) = false)
    (s7_8 : PySem.W.subIn K (.ref a7) (.ref a8) = some false)
    (ne7_8 : (Value.ref a7 == Value.ref a8) = false)
    (s7_9 : PySem.W.subIn K (.ref a7) (.ref a9) = some false)
    (ne7_9 : (Value.ref a7 == Value.ref a9) = false)
    (s7_10 : PySem.W.subIn K (.ref a7) (.ref a10) = some false)
    (ne7_10 : (Value.ref a7 == Value.ref a10) = false)
    (s7_11 : PySem.W.subIn K (.ref a7) (.ref a11) = some false)
    (ne7_11 : (Value.ref a7 == Value.ref a11) = false)
    (s7_12 : PySem.W.subIn K (.ref a7) (.ref a12) = some false)
    (ne7_12 : (Value.ref a7 == Value.ref a12) = false)
    (s7_13 : PySem.W.subIn K (.ref a7) (.ref a13) = some false)
    (ne7_13 : (Value.ref a7 == Value.ref a13) = false)
    (s7_14 : PySem.W.subIn K (.ref a7) (.ref a14) = some false)
    (ne7_14 : (Value.ref a7 == Value.ref a14) = false)
    (s7_15 : PySem.W.subIn K (.ref a7) (.ref a15) = some false)
    (ne7_15 : (Value.ref a7 == Value.ref a15) = false)
    (s7_16 : PySem.W.subIn K (.ref a7) (.ref a16) = some false)
    (ne7_16 : (Value.ref a7 == Value.ref a16) = false)
    (e8 : (Value.ref a8 == Value.ref a8) = true)
    (s8_0 : PySem.W.subIn K (.ref a8) (.ref a0) = some false)
    (ne8_0 : (Value.ref a8 == Value.ref a0) = false)
    (s8_1 : PySem.W.subIn K (.ref a8) (.ref a1) = some false)
    (ne8_1 : (Value.ref a8 == Value.ref a1) = false)
    (s8_2 : PySem.W.subIn K (.ref a8) (.ref a2) = some false)
    (ne8_2 : (Value.ref a8 == Value.ref a2) = false)
    (s8_3 : PySem.W.subIn K (.ref a8) (.ref a3) = some false)
    (ne8_3 : (Value.ref a8 == Value.ref a3) = false)
    (s8_4 : PySem.W.subIn K (.ref a8) (.ref a4) = some false)
    (ne8_4 : (Value.ref a8 == Value.ref a4) = false)
    (s8_5 : PySem.W.subIn K (.ref a8) (.ref a5) = some false)
    (ne8_5 : (Value.ref a8 == Value.ref a5) = false)
    (s8_6 : PySem.W.subIn K (.ref a8) (.ref a6) = some false)
    (ne8_6 : (Value.ref a8 == Value.ref a6) = false)
    (s8_7 : PySem.W.subIn K (.ref a8) (.ref a7) = some false)
    (ne8_7 : (Value.ref a8 == Value.ref a7) = false)
    (s8_9 : PySem.W.subIn K (.ref a8) (.ref a9) = some false)
    (ne8_9 : (Value.ref a8 == Value.ref a9) = false)
    (s8_10 : PySem.W.subIn K (.ref a8) (.ref a10) = some false)
    (ne8_10 : (Value.ref a8 == Value.ref a10) = false)
    (s8_11 : PySem.W.subIn K (.ref a8) (.ref a11) = some false)
    (ne8_11 : (Value.ref a8 == Value.ref a11) = false)
    (s8_12 : PySem.W.subIn K (.ref a8) (.ref a12) = some false)
    (ne8_12 : (Value.ref a8 == Value.ref a12) = false)
    (s8_13 : PySem.W.subIn K (.ref a8) (.ref a13) = some false)
    (ne8_13 : (Value.ref a8 == Value.ref a13) = false)
    (s8_14 : PySem.W.subIn K (.ref a8) (.ref a14) = some false)
    (ne8_14 : (Value.ref a8 == Value.ref a14) = false)
    (s8_15 : PySem.W.subIn K (.ref a8) (.ref a15) = some false)
    (ne8_15 : (Value.ref a8 == Value.ref a15) = false)
    (s8_16 : PySem.W.subIn K (.ref a8) (.ref a16) = some false)
    (ne8_16 : (Value.ref a8 == Value.ref a16) = false)
    (e9 : (Value.ref a9 == Value.ref a9) = true)
    (s9_0 : PySem.W.subIn K (.ref a9) (.ref a0) = some false)
    (ne9_0 : (Value.ref a9 == Value.ref a0) = false)
    (s9_1 : PySem.W.subIn K (.ref a9) (.ref a1) = some false)
    (ne9_1 : (Value.ref a9 == Value.ref a1) = false)
    (s9_2 : PySem.W.subIn K (.ref a9) (.ref a2) = some false)
    (ne9_2 : (Value.ref a9 == Value.ref a2) = false)
    (s9_3 : PySem.W.subIn K (.ref a9) (.ref a3) = some false)
    (ne9_3 : (Value.ref a9 == Value.ref a3) = false)
    (s9_4 : PySem.W.subIn K (.ref a9) (.ref a4) = some false)
    (ne9_4 : (Value.ref a9 == Value.ref a4) = false)
    (s9_5 : PySem.W.subIn K (.ref a9) (.ref a5) = some false)
    (ne9_5 : (Value.ref a9 == Value.ref a5) = false)
    (s9_6 : PySem.W.subIn K (.ref a9) (.ref a6) = some false)
    (ne9_6 : (Value.ref a9 == Value.ref a6) = false)
    (s9_7 : PySem.W.subIn K (.ref a9) (.ref a7) = some false)
    (ne9_7 : (Value.ref a9 == Value.ref a7) = false)
    (s9_8 : PySem.W.subIn K (.ref a9) (.ref a8) = some false)
    (ne9_8 : (Value.ref a9 == Value.ref a8) = false)
    (s9_10 : PySem.W.subIn K (.ref a9) (.ref a10) = some false)
    (ne9_10 : (Value.ref a9 == Value.ref a10) = false)
    (s9_11 : PySem.W.subIn K (.ref a9) (.ref a11) = some false)
    (ne9_11 : (Value.ref a9 == Value.ref a11) = false)
    (s9_12 : PySem.W.subIn K (.ref a9) (.ref a12) = some false)
    (ne9_12 : (Value.ref a9 == Value.ref a12) = false)
    (s9_13 : PySem.W.subIn K (.ref a9) (.ref a13) = some false)
    (ne9_13 : (Value.ref a9 == Value.ref a13) = false)
    (s9_14 : PySem.W.subIn K (.ref a9) (.ref a14) = some false)
    (ne9_14 : (Value.ref a9 == Value.ref a14) = false)
    (s9_15 : PySem.W.subIn K (.ref a9) (.ref a15) = some false)
    (ne9_15 : (Value.ref a9 == Value.ref a15) = false)
    (s9_16 : PySem.W.subIn K (.ref a9) (.ref a16) = some false)
    (ne9_16 : (Value.ref a9 == Value.ref a16) = false)
    (e10 : (Value.ref a10 == Value.ref a10) = true)
    (s10_0 : PySem.W.subIn K (.ref a10) (.ref a0) = some false)
    (ne10_0 : (Value.ref a10 == Value.ref a0) = false)
    (s10_1 : PySem.W.subIn K (.ref a10) (.ref a1) = some false)
    (ne10_1 : (Value.ref a10 == Value.ref a1) = false)
    (s10_2 : PySem.W.subIn K (.ref a10) (.ref a2) = some false)
    (ne10_2 : (Value.ref a10 == Value.ref a2) = false)
    (s10_3 : PySem.W.subIn K (.ref a10) (.ref a3) = some false)
    (ne10_3 : (Value.ref a10 == Value.ref a3) = false)
    (s10_4 : PySem.W.subIn K (.ref a10) (.ref a4) = some false)
    (ne10_4 : (Value.ref a10 == Value.ref a4) = false)
    (s10_5 : PySem.W.subIn K (.ref a10) (.ref a5) = some false)
    (ne10_5 : (Value.ref a10 == Value.ref a5) = false)
    (s10_6 : PySem.W.subIn K (.ref a10) (.ref a6) = some false)
    (ne10_6 : (Value.ref a10 == Value.ref a6) = false)
    (s10_7 : PySem.W.subIn K (.ref a10) (.ref a7) = some false)
    (ne10_7 : (Value.ref a10 == Value.ref a7) = false)
    (s10_8 : PySem.W.subIn K (.ref a10) (.ref a8) = some false)
    (ne10_8 : (Value.ref a10 == Value.ref a8) = false)
    (s10_9 : PySem.W.subIn K (.ref a10) (.ref a9) = some false)
    (ne10_9 : (Value.ref a10 == Value.ref a9) = false)
    (s10_11 : PySem.W.subIn K (.ref a10) (.ref a11) = some false)
    (ne10_11 : (Value.ref a10 == Value.ref a11) = false)
    (s10_12 : PySem.W.subIn K (.ref a10) (.ref a12) = some false)
    (ne10_12 : (Value.ref a10 == Value.ref a12) = false)
    (s10_13 : PySem.W.subIn K (.ref a10) (.ref a13) = some false)
    (ne10_13 : (Value.ref a10 == Value.ref a13) = false)
    (s10_14 : PySem.W.subIn K (.ref a10) (.ref a14) = some false)
    (ne10_14 : (Value.ref a10 == Value.ref a14) = false)
    (s10_15 : PySem.W.subIn K (.ref a10) (.ref a15) = some false)
    (ne10_15 : (Value.ref a10 == Value.ref a15) = false)
    (s10_16 : PySem.W.subIn K (.ref a10) (.ref a16) = some false)
    (ne10_16 : (Value.ref a10 == Value.ref a16) = false)
    (e11 : (Value.ref a11 == Value.ref a11) = true)
    (s11_0 : PySem.W.subIn K (.ref a11) (.ref a0) = some false)
    (ne11_0 : (Value.ref a11 == Value.ref a0) = false)
    (s11_1 : PySem.W.subIn K (.ref a11) (.ref a1) = some false)
    (ne11_1 : (Value.ref a11 == Value.ref a1) = false)
    (s11_2 : PySem.W.subIn K (.ref a11) (.ref a2) = some false)
    (ne11_2 : (Value.ref a11 == Value.ref a2) = false)
    (s11_3 : PySem.W.subIn K (.ref a11) (.ref a3) = some false)
    (ne11_3 : (Value.ref a11 == Value.ref a3) = false)
    (s11_4 : PySem.W.subIn K (.ref a11) (.ref a4) = some false)
    (ne11_4 : (Value.ref a11 == Value.ref a4) = false)
    (s11_5 : PySem.W.subIn K (.ref a11) (.ref a5) = some false)
    (ne11_5 : (Value.ref a11 == Value.ref a5) = false)
    (s11_6 : PySem.W.subIn K (.ref a11) (.ref a6) = some false)
    (ne11_6 : (Value.ref a11 == Value.ref a6) = false)
    (s11_7 : PySem.W.subIn K (.ref a11) (.ref a7) = some false)
    (ne11_7 : (Value.ref a11 == Value.ref a7) = false)
    (s11_8 : PySem.W.subIn K (.ref a11) (.ref a8) = some false)
    (ne11_8 : (Value.ref a11 == Value.ref a8) = false)
    (s11_9 : PySem.W.subIn K (.ref a11) (.ref a9) = some false)
    (ne11_9 : (Value.ref a11 == Value.ref a9) = false)
    (s11_10 : PySem.W.subIn K (.ref a11) (.ref a10) = some false)
    (ne11_10 : (Value.ref a11 == Value.ref a10) = false)
    (s11_12 : PySem.W.subIn K (.ref a11) (.ref a12) = some false)
    (ne11_12 : (Value.ref a11 == Value.ref a12) = false)
    (s11_13 : PySem.W.subIn K (.ref a11) (.ref a13) = some false)
    (ne11_13 : (Value.ref a11 == Value.ref a13) = false)
    (s11_14 : PySem.W.subIn K (.ref a11) (.ref a14) = some false)
    (ne11_14 : (Value.ref a11 == Value.ref a14) = false)
    (s11_15 : PySem.W.subIn K (.ref a11) (.ref a15) = some false)
    (ne11_15 : (Value.ref a11 == Value.ref a15) = false)
    (s11_16 : PySem.W.subIn K (.ref a11) (.ref a16) = some false)
    (ne11_16 : (Value.ref a11 == Value.ref a16) = false)
    (e12 : (Value.ref a12 == Value.ref a12) = true)
    (s12_0 : PySem.W.subIn K (.ref a12) (.ref a0) = some false)
    (ne12_0 : (Value.ref a12 == Value.ref a0) = false)
    (s12_1 : PySem.W.subIn K (.ref a12) (.ref a1) = some false)
    (ne12_1 : (Value.ref a12 == Value.ref a1) = false)
    (s12_2 : PySem.W.subIn K (.ref a12) (.ref a2) = some false)
    (ne12_2 : (Value.ref a12 == Value.ref a2) = false)
    (s12_3 : PySem.W.subIn K (.ref a12) (.ref a3) = some false)
    (ne12_3 : (Value.ref a12 == Value.ref a3) = false)
    (s12_4 : PySem.W.subIn K (.ref a12) (.ref a4) = some false)
    (ne12_4 : (Value.ref a12 == Value.ref a4) = false)
    (s12_5 : PySem.W.subIn K (.ref a12) (.ref a5) = some false)
    (ne12_5 : (Value.ref a12 == Value.ref a5) = false)
    (s12_6 : PySem.W.subIn K (.ref a12) (.ref a6) = some false)
    (ne12_6 : (Value.ref a12 == Value.ref a6) = false)
    (s12_7 : PySem.W.subIn K (.ref a12) (.ref a7) = some false)
    (ne12_7 : (Value.ref a12 == Value.ref a7) = false)
    (s12_8 : PySem.W.subIn K (.ref a12) (.ref a8) = some false)
    (ne12_8 : (Value.ref a12 == Value.ref a8) = false)
    (s12_9 : PySem.W.subIn K (.ref a12) (.ref a9) = some false)
    (ne12_9 : (Value.ref a12 == Value.ref a9) = false)
    (s12_10 : PySem.W.subIn K (.ref a12) (.ref a10) = some false)
    (ne12_10 : (Value.ref a12 == Value.ref a10) = false)
    (s12_11 : PySem.W.subIn K (.ref a12) (.ref a11) = some false)
    (ne12_11 : (Value.ref a12 == Value.ref a11) = false)
    (s12_13 : PySem.W.subIn K (.ref a12) (.ref a13) = some false)
    (ne12_13 : (Value.ref a12 == Value.ref a13) = false)
    (s12_14 : PySem.W.subIn K (.ref a12) (.ref a14) = some false)
    (ne12_14 : (Value.ref a12 == Value.ref a14) = false)
    (s12_15 : PySem.W.subIn K (.ref a12) (.ref a15) = some false)
    (ne12_15 : (Value.ref a12 == Value.ref a15) = false)
    (s12_16 : PySem.W.subIn K (.ref a12) (.ref a16) = some false)
    (ne12_16 : (Value.ref a12 == Value.ref a16) = false)
    (e13 : (Value.ref a13 == Value.ref a13) = true)
    (s13_0 : PySem.W.subIn K (.ref a13) (.ref a0) = some false)
    (ne13_0 : (Value.ref a13 == Value.ref a0) = false)
    (s13_1 : PySem.W.subIn K (.ref a13) (.ref a1) = some false)
    (ne13_1 : (Value.ref a13 == Value.ref a1) = false)
    (s13_2 : PySem.W.subIn K (.ref a13) (.ref a2) = some false)
    (ne13_2 : (Value.ref a13 == Value.ref a2) = false)
    (s13_3 : PySem.W.subIn K (.ref a13) (.ref a3) = some false)
    (ne13_3 : (Value.ref a13 == Value.ref a3) = false)
    (s13_4 : PySem.W.subIn K (.ref a13) (.ref a4) = some false)
    (ne13_4 : (Value.ref a13 == Value.ref a4) = false)
    (s13_5 : PySem.W.subIn K (.ref a13) (.ref a5) = some false)
    (ne13_5 : (Value.ref a13 == Value.ref a5) = false)
    (s13_6 : PySem.W.subIn K (.ref a13) (.ref a6) = some false)
    (ne13_6 : (Value.ref a13 == Value.ref a6) = false)
    (s13_7 : PySem.W.subIn K (.ref a13) (.ref a7) = some false)
    (ne13_7 : (Value.ref a13 == Value.ref a7) = false)
    (s13_8 : PySem.W.subIn K (.ref a13) (.ref a8) = some false)
    (ne13_8 : (Value.ref a13 == Value.ref a8) = false)
    (s13_9 : PySem.W.subIn K (.ref a13) (.ref a9) = some false)
    (ne13_9 : (Value.ref a13 == Value.ref a9) = false)
    (s13_10 : PySem.W.subIn K (.ref a13) (.ref a10) = some false)
    (ne13_10 : (Value.ref a13 == Value.ref a10) = false)
    (s13_11 : PySem.W.subIn K (.ref a13) (.ref a11) = some false)
    (ne13_11 : (Value.ref a13 == Value.ref a11) = false)
    (s13_12 : PySem.W.subIn K (.ref a13) (.ref a12) = some false)
    (ne13_12 : (Value.ref a13 == Value.ref a12) = false)
    (s13_14 : PySem.W.subIn K (.ref a13) (.ref a14) = some false)
    (ne13_14 : (Value.ref a13 == Value.ref a14) = false)
    (s13_15 : PySem.W.subIn K (.ref a13) (.ref a15) = some false)
    (ne13_15 : (Value.ref a13 == Value.ref a15) = false)
    (s13_16 : PySem.W.subIn K (.ref a13) (.ref a16) = some false)
    (ne13_16 : (Value.ref a13 == Value.ref a16) = false)
    (e14 : (Value.ref a14 == Value.ref a14) = true)
    (s14_0 : PySem.W.subIn K (.ref a14) (.ref a0) = some false)
    (ne14_0 : (Value.ref a14 == Value.ref a0) = false)
    (s14_1 : PySem.W.subIn K (.ref a14) (.ref a1) = some false)
    (ne14_1 : (Value.ref a14 == Value.ref a1) = false)
    (s14_2 : PySem.W.subIn K (.ref a14) (.ref a2) = some false)
    (ne14_2 : (Value.ref a14 == Value.ref a2) = false)
    (s14_3 : PySem.W.subIn K (.ref a14) (.ref a3) = some false)
    (ne14_3 : (Value.ref a14 == Value.ref a3) = false)
    (s14_4 : PySem.W.subIn K (.ref a14) (.ref a4) = some false)
    (ne14_4 : (Value.ref a14 == Value.ref a4) = false)
    (s14_5 : PySem.W.subIn K (.ref a14) (.ref a5) = some false)
    (ne14_5 : (Value.ref a14 == Value.ref a5) = false)
    (s14_6 : PySem.W.subIn K (.ref a14) (.ref a6) = some false)
    (ne14_6 : (Value.ref a14 == Value.ref a6) = false)
    (s14_7 : PySem.W.subIn K (.ref a14) (.ref a7) = some false)
    (ne14_7 : (Value.ref a14 == Value.ref a7) = false)
    (s14_8 : PySem.W.subIn K (.ref a14) (.ref a8) = some false)
    (ne14_8 : (Value.ref a14 == Value.ref a8) = false)
    (s14_9 : PySem.W.subIn K (.ref a14) (.ref a9) = some false)
    (ne14_9 : (Value.ref a14 == Value.ref a9) = false)
    (s14_10 : PySem.W.subIn K (.ref a14) (.ref a10) = some false)
    (ne14_10 : (Value.ref a14 == Value.ref a10) = false)
    (s14_11 : PySem.W.subIn K (.ref a14) (.ref a11) = some false)
    (ne14_11 : (Value.ref a14 == Value.ref a11) = false)
    (s14_12 : PySem.W.subIn K (.ref a14) (.ref a12) = some false)
    (ne14_12 : (Value.ref a14 == Value.ref a12) = false)
    (s14_13 : PySem.W.subIn K (.ref a14) (.ref a13) = some false)
    (ne14_13 : (Value.ref a14 == Value.ref a13) = false)
    (s14_15 : PySem.W.subIn K (.ref a14) (.ref a15) = some false)
    (ne14_15 : (Value.ref a14 == Value.ref a15) = false)
    (s14_16 : PySem.W.subIn K (.ref a14) (.ref a16) = some false)
    (ne14_16 : (Value.ref a14 == Value.ref a16) = false)
    (e15 : (Value.ref a15 == Value.ref a15) = true)
    (s15_0 : PySem.W.subIn K (.ref a15) (.ref a0) = some false)
    (ne15_0 : (Value.ref a15 == Value.ref a0) = false)
    (s15_1 : PySem.W.subIn K (.ref a15) (.ref a1) = some false)
    (ne15_1 : (Value.ref a15 == Value.ref a1) = false)
    (s15_2 : PySem.W.subIn K (.ref a15) (.ref a2) = some false)
    (ne15_2 : (Value.ref a15 == Value.ref a2) = false)
    (s15_3 : PySem.W.subIn K (.ref a15) (.ref a3) = some false)
    (ne15_3 : (Value.ref a15 == Value.ref a3) = false)
    (s15_4 : PySem.W.subIn K (.ref a15) (.ref a4) = some false)
    (ne15_4 : (Value.ref a15 == Value.ref a4) = false)
    (s15_5 : PySem.W.subIn K (.ref a15) (.ref a5) = some false)
    (ne15_5 : (Value.ref a15 == Value.ref a5) = false)
    (s15_6 : PySem.W.subIn K (.ref a15) (.ref a6) = some false)
    (ne15_6 : (Value.ref a15 == Value.ref a6) = false)
    (s15_7 : PySem.W.subIn K (.ref a15) (.ref a7) = some false)
    (ne15_7 : (Value.ref a15 == Value.ref a7) = false)
    (s15_8 : PySem.W.subIn K (.ref a15) (.ref a8) = some false)
    (ne15_8 : (Value.ref a15 == Value.ref a8) = false)
    (s15_9 : PySem.W.subIn K (.ref a15) (.ref a9) = some false)
    (ne15_9 : (Value.ref a15 == Value.ref a9) = false)
    (s15_10 : PySem.W.subIn K (.ref a15) (.ref a10) = some false)
    (ne15_10 : (Value.ref a15 == Value.ref a10) = false)
    (s15_11 : PySem.W.subIn K (.ref a15) (.ref a11) = some false)
    (ne15_11 : (Value.ref a15 == Value.ref a11) = false)
    (s15_12 : PySem.W.subIn K (.ref a15) (.ref a12) = some false)
    (ne15_12 : (Value.ref a15 == Value.ref a12) = false)
    (s15_13 : PySem.W.subIn K (.ref a15) (.ref a13) = some false)
    (ne15_13 : (Value.ref a15 == Value.ref a13) = false)
    (s15_14 : PySem.W.subIn K (.ref a15) (.ref a14) = some false)
    (ne15_14 : (Value.ref a15 == Value.ref a14) = false)
    (s15_16 : PySem.W.subIn K (.ref a15) (.ref a16) = some false)
    (ne15_16 : (Value.ref a15 == Value.ref a16) = false)
    (e16 : (Value.ref a16 == Value.ref a16) = true)
    (s16_0 : PySem.W.subIn K (.ref a16) (.ref a0) = some false)
    (ne16_0 : (Value.ref a16 == Value.ref a0) = false)
    (s16_1 : PySem.W.subIn K (.ref a16) (.ref a1) = some false)
    (ne16_1 : (Value.ref a16 == Value.ref a1) = false)
    (s16_2 : PySem.W.subIn K (.ref a16) (.ref a2) = some false)
    (ne16_2 : (Value.ref a16 == Value.ref a2) = false)
    (s16_3 : PySem.W.subIn K (.ref a16) (.ref a3) = some false)
    (ne16_3 : (Value.ref a16 == Value.ref a3) = false)
    (s16_4 : PySem.W.subIn K (.ref a16) (.ref a4) = some false)
    (ne16_4 : (Value.ref a16 == Value.ref a4) = false)
    (s16_5 : PySem.W.subIn K (.ref a16) (.ref a5) = some false)
    (ne16_5 : (Value.ref a16 == Value.ref a5) = false)
    (s16_6 : PySem.W.subIn K (.ref a16) (.ref a6) = some false)
    (ne16_6 : (Value.ref a16 == Value.ref a6) = false)
    (s16_7 : PySem.W.subIn K (.ref a16) (.ref a7) = some false)
    (ne16_7 : (Value.ref a16 == Value.ref a7) = false)
    (s16_8 : PySem.W.subIn K (.ref a16) (.ref a8) = some false)
    (ne16_8 : (Value.ref a16 == Value.ref a8) = false)
    (s16_9 : PySem.W.subIn K (.ref a16) (.ref a9) = some false)
    (ne16_9 : (Value.ref a16 == Value.ref a9) = false)
    (s16_10 : PySem.W.subIn K (.ref a16) (.ref a10) = some false)
    (ne16_10 : (Value.ref a16 == Value.ref a10) = false)
    (s16_11 : PySem.W.subIn K (.ref a16) (.ref a11) = some false)
    (ne16_11 : (Value.ref a16 == Value.ref a11) = false)
    (s16_12 : PySem.W.subIn K (.ref a16) (.ref a12) = some false)
    (ne16_12 : (Value.ref a16 == Value.ref a12) = false)
    (s16_13 : PySem.W.subIn K (.ref a16) (.ref a13) = some false)
    (ne16_13 : (Value.ref a16 == Value.ref a13) = false)
    (s16_14 : PySem.W.subIn K (.ref a16) (.ref a14) = some false)
    (ne16_14 : (Value.ref a16 == Value.ref a14) = false)
    (s16_15 : PySem.W.subIn K (.ref a16) (.ref a15) = some false)
    (ne16_15 : (Value.ref a16 == Value.ref a15) = false) : TX P K mg a0 a1 a2 a3 a4 a5 a6 a7 a8 a9 a10 a11 a12 a13 a14 a15 a16 CB := by
  refine ⟨tg, d1, d2, d3, z1, z2, z3, b0, b1, b2, b3, b4, b5, b6, b7, b8, b9, b10, b11, b12, b13, b14, b15, b16, bB, ?_, ?_, ?_, ?_, ?_, xB, kit_V sVB⟩
  · intro i j hi hj
    obtain rfl | rfl | rfl | rfl | rfl | rfl | rfl | rfl | rfl | rfl | rfl | rfl | rfl | rfl | rfl | rfl | rfl : i = 0 ∨ i = 1 ∨ i = 2 ∨ i = 3 ∨ i = 4 ∨ i = 5 ∨ i = 6 ∨ i = 7 ∨ i = 8 ∨ i = 9 ∨ i = 10 ∨ i = 11 ∨ i = 12 ∨ i = 13 ∨ i = 14 ∨ i = 15 ∨ i = 16 := by omega
    · obtain rfl | rfl | rfl | rfl | rfl | rfl | rfl | rfl | rfl | rfl | rfl | rfl | rfl | rfl | rfl | rfl | rfl : j = 0 ∨ j = 1 ∨ j = 2 ∨ j = 3 ∨ j = 4 ∨ j = 5 ∨ j = 6 ∨ j = 7 ∨ j = 8 ∨ j = 9 ∨ j = 10 ∨ j = 11 ∨ j = 12 ∨ j = 13 ∨ j = 14 ∨ j = 15 ∨ j = 16 := by omega
      · exact kit_self e0
      · exact kit_ref ne0_1 x1.hd ty1 s0_1
      · exact kit_ref ne0_2 x2.hd ty2 s0_2
      · exact kit_ref ne0_3 x3.hd ty3 s0_3
      · exact kit_ref ne0_4 x4.hd ty4 s0_4
      · exact kit_ref ne0_5 x5.hd ty5 s0_5
      · exact kit_ref ne0_6 x6.hd ty6 s0_6
      · exact kit_ref ne0_7 x7.hd ty7 s0_7
      · exact kit_ref ne0_8 x8.hd ty8 s0_8
      · exact kit_ref ne0_9 x9.hd ty9 s0_9
      · exact kit_ref ne0_10 x10.hd ty10 s0_10
      · exact kit_ref ne0_11 x11.hd ty11 s0_11
      · exact kit_ref ne0_12 x12.hd ty12 s0_12
      · exact kit_ref ne0_13 x13.hd ty13 s0_13
      · exact kit_ref ne0_14 x14.hd ty14 s0_14
      · exact kit_ref ne0_15 x15.hd ty15 s0_15
      · exact kit_ref ne0_16 x16.hd ty16 s0_16
    · obtain rfl | rfl | rfl | rfl | rfl | rfl | rfl | rfl | rfl | rfl | rfl | rfl | rfl | rfl | rfl | rfl | rfl : j = 0 ∨ j = 1 ∨ j = 2 ∨ j = 3 ∨ j = 4 ∨ j = 5 ∨ j = 6 ∨ j = 7 ∨ j = 8 ∨ j = 9 ∨ j = 10 ∨ j = 11 ∨ j = 12 ∨ j = 13 ∨ j = 14 ∨ j = 15 ∨ j = 16 := by omega
      · exact kit_ref ne1_0 x0.hd ty0 s1_0
      · exact kit_self e1
      · exact kit_ref ne1_2 x2.hd ty2 s1_2
      · exact kit_ref ne1_3 x3.hd ty3 s1_3
      · exact kit_ref ne1_4 x4.hd ty4 s1_4
      · exact kit_ref ne1_5 x5.hd ty5 s1_5
      · exact kit_ref ne1_6 x6.hd ty6 s1_6
      · exact kit_ref ne1_7 x7.hd ty7 s1_7
      · exact kit_ref ne1_8 x8.hd ty8 s1_8
      · exact kit_ref ne1_9 x9.hd ty9 s1_9
      · exact kit_ref ne1_10 x10.hd ty10 s1_10
      · exact kit_ref ne1_11 x11.hd ty11 s1_11
      · exact kit_ref ne1_12 x12.hd ty12 s1_12
      · exact kit_ref ne1_13 x13.hd ty13 s1_13
      · exact kit_ref ne1_14 x14.hd ty14 s1_14
      · exact kit_ref ne1_15 x15.hd ty15 s1_15
      · exact kit_ref ne1_16 x16.hd ty16 s1_16
    · obtain rfl | rfl | rfl | rfl | rfl | rfl | rfl | rfl | rfl | rfl | rfl | rfl | rfl | rfl | rfl | rfl | rfl : j = 0 ∨ j = 1 ∨ j = 2 ∨ j = 3 ∨ j = 4 ∨ j = 5 ∨ j = 6 ∨ j = 7 ∨ j = 8 ∨ j = 9 ∨ j = 10 ∨ j = 11 ∨ j = 12 ∨ j = 13 ∨ j = 14 ∨ j = 15 ∨ j = 16 := by omega
      · exact kit_ref ne2_0 x0.hd ty0 s2_0
      · exact kit_ref ne2_1 x1.hd ty1 s2_1
      · exact kit_self e2
      · exact kit_ref ne2_3 x3.hd ty3 s2_3
      · exact kit_ref ne2_4 x4.hd ty4 s2_4
      · exact kit_ref ne2_5 x5.hd ty5 s2_5
      · exact kit_ref ne2_6 x6.hd ty6 s2_6
      · exact kit_ref ne2_7 x7.hd ty7 s2_7
      · exact kit_ref ne2_8 x8.hd ty8 s2_8
      · exact kit_ref ne2_9 x9.hd ty9 s2_9
      · exact kit_ref ne2_10 x10.hd ty10 s2_10
      · exact kit_ref ne2_11 x11.hd ty11 s2_11
      · exact kit_ref ne2_12 x12.hd ty12 s2_12
      · exact kit_ref ne2_13 x13.hd ty13 s2_13
      · exact kit_ref ne2_14 x14.hd ty14 s2_14
      · exact kit_ref ne2_15 x15.hd ty15 s2_15
      · exact kit_ref ne2_16 x16.hd ty16 s2_16
    · obtain rfl | rfl | rfl | rfl | rfl | rfl | rfl | rfl | rfl | rfl | rfl | rfl | rfl | rfl | rfl | rfl | rfl : j = 0 ∨ j = 1 ∨ j = 2 ∨ j = 3 ∨ j = 4 ∨ j = 5 ∨ j = 6 ∨ j = 7 ∨ j = 8 ∨ j = 9 ∨ j = 10 ∨ j = 11 ∨ j = 12 ∨ j = 13 ∨ j = 14 ∨ j = 15 ∨ j = 16 := by omega
      · exact kit_ref ne3_0 x0.hd ty0 s3_0
      · exact kit_ref ne3_1 x1.hd ty1 s3_1
      · exact kit_ref ne3_2 x2.hd ty2 s3_2
      · exact kit_self e3
      · exact kit_ref ne3_4 x4.hd ty4 s3_4
      · exact kit_ref ne3_5 x5.hd ty5 s3_5
      · exact kit_ref ne3_6 x6.hd ty6 s3_6
      · exact kit_ref ne3_7 x7.hd ty7 s3_7
      · exact kit_ref ne3_8 x8.hd ty8 s3_8
      · exact kit_ref ne3_9 x9.hd ty9 s3_9
      · exact kit_ref ne3_10 x10.hd ty10 s3_10
      · exact kit_ref ne3_11 x11.hd ty11 s3_11
      · exact kit_ref ne3_12 x12.hd ty12 s3_12
      · exact kit_ref ne3_13 x13.hd ty13 s3_13
      · exact kit_ref ne3_14 x14.hd ty14 s3_14
      · exact kit_ref ne3_15 x15.hd ty15 s3_15
      · exact kit_ref ne3_16 x16.hd ty16 s3_16
    · obtain rfl | rfl | rfl | rfl | rfl | rfl | rfl | rfl | rfl | rfl | rfl | rfl | rfl | rfl | rfl | rfl | rfl : j = 0 ∨ j = 1 ∨ j = 2 ∨ j = 3 ∨ j = 4 ∨ j = 5 ∨ j = 6 ∨ j = 7 ∨ j = 8 ∨ j = 9 ∨ j = 10 ∨ j = 11 ∨ j = 12 ∨ j = 13 ∨ j = 14 ∨ j = 15 ∨ j = 16 := by omega
      · exact kit_ref ne4_0 x0.hd ty0 s4_0
      · exact kit_ref ne4_1 x1.hd ty1 s4_1
      · exact kit_ref ne4_2 x2.hd ty2 s4_2
      · exact kit_ref ne4_3 x3.hd ty3 s4_3
      · exact kit_self e4
      · exact kit_ref ne4_5 x5.hd ty5 s4_5
      · exact kit_ref ne4_6 x6.hd ty6 s4_6
      · exact kit_ref ne4_7 x7.hd ty7 s4_7
      · exact kit_ref ne4_8 x8.hd ty8 s4_8
      · exact kit_ref ne4_9 x9.hd ty9 s4_9
      · exact kit_ref ne4_10 x10.hd ty10 s4_10
      · exact kit_ref ne4_11 x11.hd ty11 s4_11
      · exact kit_ref ne4_12 x12.hd ty12 s4_12
      · exact kit_ref ne4_13 x13.hd ty13 s4_13
      · exact kit_ref ne4_14 x14.hd ty14 s4_14
      · exact kit_ref ne4_15 x15.hd ty15 s4_15
      · exact kit_ref ne4_16 x16.hd ty16 s4_16
    · obtain rfl | rfl | rfl | rfl | rfl | rfl | rfl | rfl | rfl | rfl | rfl | rfl | rfl | rfl | rfl | rfl | rfl : j = 0 ∨ j = 1 ∨ j = 2 ∨ j = 3 ∨ j = 4 ∨ j = 5 ∨ j = 6 ∨ j = 7 ∨ j = 8 ∨ j = 9 ∨ j = 10 ∨ j = 11 ∨ j = 12 ∨ j = 13 ∨ j = 14 ∨ j = 15 ∨ j = 16 := by omega
      · exact kit_ref ne5_0 x0.hd ty0 s5_0
      · exact kit_ref ne5_1 x1.hd ty1 s5_1
      · exact kit_ref ne5_2 x2.hd ty2 s5_2
      · exact kit_ref ne5_3 x3.hd ty3 s5_3
      · exact kit_ref ne5_4 x4.hd ty4 s5_4
      · exact kit_self e5
      · exact kit_ref ne5_6 x6.hd ty6 s5_6
      · exact kit_ref ne5_7 x7.hd ty7 s5_7
      · exact kit_ref ne5_8 x8.hd ty8 s5_8
      · exact kit_ref ne5_9 x9.hd ty9 s5_9
      · exact kit_ref ne5_10 x10.hd ty10 s5_10
      · exact kit_ref ne5_11 x11.hd ty11 s5_11
      · exact kit_ref ne5_12 x12.hd ty12 s5_12
      · exact kit_ref ne5_13 x13.hd ty13 s5_13
      · exact kit_ref ne5_14 x14.hd ty14 s5_14
      · exact kit_ref ne5_15 x15.hd ty15 s5_15
      · exact kit_ref ne5_16 x16.hd ty16 s5_16
    · obtain rfl | rfl | rfl | rfl | rfl | rfl | rfl | rfl | rfl | rfl | rfl | rfl | rfl | rfl | rfl | rfl | rfl : j = 0 ∨ j = 1 ∨ j = 2 ∨ j = 3 ∨ j = 4 ∨ j = 5 ∨ j = 6 ∨ j = 7 ∨ j = 8 ∨ j = 9 ∨ j = 10 ∨ j = 11 ∨ j = 12 ∨ j = 13 ∨ j = 14 ∨ j = 15 ∨ j = 16 := by omega
      · exact kit_ref ne6_0 x0.hd ty0 s6_0
      · exact kit_ref ne6_1 x1.hd ty1 s6_1
      · exact kit_ref ne6_2 x2.hd ty2 s6_2
      · exact kit_ref ne6_3 x3.hd ty3 s6_3
      · exact kit_ref ne6_4 x4.hd ty4 s6_4
      · exact kit_ref ne6_5 x5.hd ty5 s6_5
      · exact kit_self e6
      · exact kit_ref ne6_7 x7.hd ty7 s6_7
      · exact kit_ref ne6_8 x8.hd ty8 s6_8
      · exact kit_ref ne6_9 x9.hd ty9 s6_9
      · exact kit_ref ne6_10 x10.hd ty10 s6_10
      · exact kit_ref ne6_11 x11.hd ty11 s6_11
      · exact kit_ref ne6_12 x12.hd ty12 s6_12
      · exact kit_ref ne6_13 x13.hd ty13 s6_13
      · exact kit_ref ne6_14 x14.hd ty14 s6_14
      · exact kit_ref ne6_15 x15.hd ty15 s6_15
      · exact kit_ref ne6_16 x16.hd ty16 s6_16
    · obtain rfl | rfl | rfl | rfl | rfl | rfl | rfl | rfl | rfl | rfl | rfl | rfl | rfl | rfl | rfl | rfl | rfl : j = 0 ∨ j = 1 ∨ j = 2 ∨ j = 3 ∨ j = 4 ∨ j = 5 ∨ j = 6 ∨ j = 7 ∨ j = 8 ∨ j = 9 ∨ j = 10 ∨ j = 11 ∨ j = 12 ∨ j = 13 ∨ j = 14 ∨ j = 15 ∨ j = 16 := by omega
      · exact kit_ref ne7_0 x0.hd ty0 s7_0
      · exact kit_ref ne7_1 x1.hd ty1 s7_1
      · exact kit_ref ne7_2 x2.hd ty2 s7_2
      · exact kit_ref ne7_3 x3.hd ty3 s7_3
      · exact kit_ref ne7_4 x4.hd ty4 s7_4
      · exact kit_ref ne7_5 x5.hd ty5 s7_5
      · exact kit_ref ne7_6 x6.hd ty6 s7_6
      · exact kit_self e7
      · exact kit_ref ne7_8 x8.hd ty8 s7_8
      · exact kit_ref ne7_9 x9.hd ty9 s7_9
      · exact kit_ref ne7_10 x10.hd ty10 s7_10
      · exact kit_ref ne7_11 x11.hd ty11 s7_11
      · exact kit_ref ne7_12 x12.hd ty12 s7_12
      · exact kit_ref ne7_13 x13.hd ty13 s7_13
      · exact kit_ref ne7_14 x14.hd ty14 s7_14
      · exact kit_ref ne7_15 x15.hd ty15 s7_15
      · exact kit_ref ne7_16 x16.hd ty16 s7_16
    · obtain rfl | rfl | rfl | rfl | rfl | rfl | rfl | rfl | rfl | rfl | rfl | rfl | rfl | rfl | rfl | rfl | rfl : j = 0 ∨ j = 1 ∨ j = 2 ∨ j = 3 ∨ j = 4 ∨ j = 5 ∨ j = 6 ∨ j = 7 ∨ j = 8 ∨ j = 9 ∨ j = 10 ∨ j = 11 ∨ j = 12 ∨ j = 13 ∨ j = 14 ∨ j = 15 ∨ j = 16 := by omega
      · exact kit_ref ne8_0 x0.hd ty0 s8_0
      · exact kit_ref ne8_1 x1.hd ty1 s8_1
      · exact kit_ref ne8_2 x2.hd ty2 s8_2
      · exact kit_ref ne8_3 x3.hd ty3 s8_3
      · exact kit_ref ne8_4 x4.hd ty4 s8_4
      · exact kit_ref ne8_5 x5.hd ty5 s8_5
      · exact kit_ref ne8_6 x6.hd ty6 s8_6
      · exact kit_ref ne8_7 x7.hd ty7 s8_7
      · exact kit_self e8
      · exact kit_ref ne8_9 x9.hd ty9 s8_9
      · exact kit_ref ne8_10 x10.hd ty10 s8_10
      · exact kit_ref ne8_11 x11.hd ty11 s8_11
      · exact kit_ref ne8_12 x12.hd ty12 s8_12
      · exact kit_ref ne8_13 x13.hd ty13 s8_13
      · exact kit_ref ne8_14 x14.hd ty14 s8_14
      · exact kit_ref ne8_15 x15.hd ty15 s8_15
      · exact kit_ref ne8_16 x16.hd ty16 s8_16
    · obtain rfl | rfl | rfl | rfl | rfl | rfl | rfl | rfl | rfl | rfl | rfl | rfl | rfl | rfl | rfl | rfl | rfl : j = 0 ∨ j = 1 ∨ j = 2 ∨ j = 3 ∨ j = 4 ∨ j = 5 ∨ j = 6 ∨ j = 7 ∨ j = 8 ∨ j = 9 ∨ j = 10 ∨ j = 11 ∨ j = 12 ∨ j = 13 ∨ j = 14 ∨ j = 15 ∨ j = 16 := by omega
      · exact kit_ref ne9_0 x0.hd ty0 s9_0
      · exact kit_ref ne9_1 x1.hd ty1 s9_1
      · exact kit_ref ne9_2 x2.hd ty2 s9_2
      · exact kit_ref ne9_3 x3.hd ty3 s9_3
      · exact kit_ref ne9_4 x4.hd ty4 s9_4
      · exact kit_ref ne9_5 x5.hd ty5 s9_5
      · exact kit_ref ne9_6 x6.hd ty6 s9_6
      · exact kit_ref ne9_7 x7.hd ty7 s9_7
      · exact kit_ref ne9_8 x8.hd ty8 s9_8
      · exact kit_self e9
      · exact kit_ref ne9_10 x10.hd ty10 s9_10
      · exact kit_ref ne9_11 x11.hd ty11 s9_11
      · exact kit_ref ne9_12 x12.hd ty12 s9_12
      · exact kit_ref ne9_13 x13.hd ty13 s9_13
      · exact kit_ref ne9_14 x14.hd ty14 s9_14
      · exact kit_ref ne9_15 x15.hd ty15 s9_15
      · exact kit_ref ne9_16 x16.hd ty16 s9_16
    · obtain rfl | rfl | rfl | rfl | rfl | rfl | rfl | rfl | rfl | rfl | rfl | rfl | rfl | rfl | rfl | rfl | rfl : j = 0 ∨ j = 1 ∨ j = 2 ∨ j = 3 ∨ j = 4 ∨ j = 5 ∨ j = 6 ∨ j = 7 ∨ j = 8 ∨ j = 9 ∨ j = 10 ∨ j = 11 ∨ j = 12 ∨ j = 13 ∨ j = 14 ∨ j = 15 ∨ j = 16 := by omega
      · exact kit_ref ne10_0 x0.hd ty0 s10_0
      · exact kit_ref ne10_1 x1.hd ty1 s10_1
      · exact kit_ref ne10_2 x2.hd ty2 s10_2
      · exact kit_ref ne10_3 x3.hd ty3 s10_3
      · exact kit_ref ne10_4 x4.hd ty4 s10_4
      · exact kit_ref ne10_5 x5.hd ty5 s10_5
      · exact kit_ref ne10_6 x6.hd ty6 s10_6
      · exact kit_ref ne10_7 x7.hd ty7 s10_7
      · exact kit_ref ne10_8 x8.hd ty8 s10_8
      · exact kit_ref ne10_9 x9.hd ty9 s10_9
      · exact kit_self e10
      · exact kit_ref ne10_11 x11.hd ty11 s10_11
      · exact kit_ref ne10_12 x12.hd ty12 s10_12
      · exact kit_ref ne10_13 x13.hd ty13 s10_13
      · exact kit_ref ne10_14 x14.hd ty14 s10_14
      · exact kit_ref ne10_15 x15.hd ty15 s10_15
      · exact kit_ref ne10_16 x16.hd ty16 s10_16
    · obtain rfl | rfl | rfl | rfl | rfl | rfl | rfl | rfl | rfl | rfl | rfl | rfl | rfl | rfl | rfl | rfl | rfl : j = 0 ∨ j = 1 ∨ j = 2 ∨ j = 3 ∨ j = 4 ∨ j = 5 ∨ j = 6 ∨ j = 7 ∨ j = 8 ∨ j = 9 ∨ j = 10 ∨ j = 11 ∨ j = 12 ∨ j = 13 ∨ j = 14 ∨ j = 15 ∨ j = 16 := by omega
      · exact kit_ref ne11_0 x0.hd ty0 s11_0
      · exact kit_ref ne11_1 x1.hd ty1 s11_1
      · exact kit_ref ne11_2 x2.hd ty2 s11_2
      · exact kit_ref ne11_3 x3.hd ty3 s11_3
      · exact kit_ref ne11_4 x4.hd ty4 s11_4
      · exact kit_ref ne11_5 x5.hd ty5 s11_5
      · exact kit_ref ne11_6 x6.hd ty6 s11_6
      · exact kit_ref ne11_7 x7.hd ty7 s11_7
      · exact kit_ref ne11_8 x8.hd ty8 s11_8
      · exact kit_ref ne11_9 x9.hd ty9 s11_9
      · exact kit_ref ne11_10 x10.hd ty10 s11_10
      · exact kit_self e11
      · exact kit_ref ne11_12 x12.hd ty12 s11_12
      · exact kit_ref ne11_13 x13.hd ty13 s11_13
      · exact kit_ref ne11_14 x14.hd ty14 s11_14
      · exact kit_ref ne11_15 x15.hd ty15 s11_15
      · exact kit_ref ne11_16 x16.hd ty16 s11_16
    · obtain rfl | rfl | rfl | rfl | rfl | rfl | rfl | rfl | rfl | rfl | rfl | rfl | rfl | rfl | rfl | rfl | rfl : j = 0 ∨ j = 1 ∨ j = 2 ∨ j = 3 ∨ j = 4 ∨ j = 5 ∨ j = 6 ∨ j = 7 ∨ j = 8 ∨ j = 9 ∨ j = 10 ∨ j = 11 ∨ j = 12 ∨ j = 13 ∨ j = 14 ∨ j = 15 ∨ j = 16 := by omega
      · exact kit_ref ne12_0 x0.hd ty0 s12_0
      · exact kit_ref ne12_1 x1.hd ty1 s12_1
      · exact kit_ref ne12_2 x2.hd ty2 s12_2
      · exact kit_ref ne12_3 x3.hd ty3 s12_3
      · exact kit_ref ne12_4 x4.hd ty4 s12_4
      · exact kit_ref ne12_5 x5.hd ty5 s12_5
      · exact kit_ref ne12_6 x6.hd ty6 s12_6
      · exact kit_ref ne12_7 x7.hd ty7 s12_7
      · exact kit_ref ne12_8 x8.hd ty8 s12_8
      · exact kit_ref ne12_9 x9.hd ty9 s12_9
      · exact kit_ref ne12_10 x10.hd ty10 s12_10
      · exact kit_ref ne12_11 x11.hd ty11 s12_11
      · exact kit_self e12
      · exact kit_ref ne12_13 x13.hd ty13 s12_13
      · exact kit_ref ne12_14 x14.hd ty14 s12_14
      · exact kit_ref ne12_15 x15.hd ty15 s12_15
      · exact kit_ref ne12_16 x16.hd ty16 s12_16
    · obtain rfl | rfl | rfl | rfl | rfl | rfl | rfl | rfl | rfl | rfl | rfl | rfl | rfl | rfl | rfl | rfl | rfl : j = 0 ∨ j = 1 ∨ j = 2 ∨ j = 3 ∨ j = 4 ∨ j = 5 ∨ j = 6 ∨ j = 7 ∨ j = 8 ∨ j = 9 ∨ j = 10 ∨ j = 11 ∨ j = 12 ∨ j = 13 ∨ j = 14 ∨ j = 15 ∨ j = 16 := by omega
      · exact kit_ref ne13_0 x0.hd ty0 s13_0
      · exact kit_ref ne13_1 x1.hd ty1 s13_1
      · exact kit_ref ne13_2 x2.hd ty2 s13_2
      · exact kit_ref ne13_3 x3.hd ty3 s13_3
      · exact kit_ref ne13_4 x4.hd ty4 s13_4
      · exact kit_ref ne13_5 x5.hd ty5 s13_5
      · exact kit_ref ne13_6 x6.hd ty6 s13_6
      · exact kit_ref ne13_7 x7.hd ty7 s13_7
      · exact kit_ref ne13_8 x8.hd ty8 s13_8
      · exact kit_ref ne13_9 x9.hd ty9 s13_9
      · exact kit_ref ne13_10 x10.hd ty10 s13_10
      · exact kit_ref ne13_11 x11.hd ty11 s13_11
      · exact kit_ref ne13_12 x12.hd ty12 s13_12
      · exact kit_self e13
      · exact kit_ref ne13_14 x14.hd ty14 s13_14
      · exact kit_ref ne13_15 x15.hd ty15 s13_15
      · exact kit_ref ne13_16 x16.hd ty16 s13_16
    · obtain rfl | rfl | rfl | rfl | rfl | rfl | rfl | rfl | rfl | rfl | rfl | rfl | rfl | rfl | rfl | rfl | rfl : j = 0 ∨ j = 1 ∨ j = 2 ∨ j = 3 ∨ j = 4 ∨ j = 5 ∨ j = 6 ∨ j = 7 ∨ j = 8 ∨ j = 9 ∨ j = 10 ∨ j = 11 ∨ j = 12 ∨ j = 13 ∨ j = 14 ∨ j = 15 ∨ j = 16 := by omega
      · exact kit_ref ne14_0 x0.hd ty0 s14_0
      · exact kit_ref ne14_1 x1.hd ty1 s14_1
      · exact kit_ref ne14_2 x2.hd ty2 s14_2
      · exact kit_ref ne14_3 x3.hd ty3 s14_3
      · exact kit_ref ne14_4 x4.hd ty4 s14_4
      · exact kit_ref ne14_5 x5.hd ty5 s14_5
      · exact kit_ref ne14_6 x6.hd ty6 s14_6
      · exact kit_ref ne14_7 x7.hd ty7 s14_7
      · exact kit_ref ne14_8 x8.hd ty8 s14_8
      · exact kit_ref ne14_9 x9.hd ty9 s14_9
      · exact kit_ref ne14_10 x10.hd ty10 s14_10
      · exact kit_ref ne14_11 x11.hd ty11 s14_11
      · exact kit_ref ne14_12 x12.hd ty12 s14_12
      · exact kit_ref ne14_13 x13.hd ty13 s14_13
      · exact kit_self e14
      · exact kit_ref ne14_15 x15.hd ty15 s14_15
      · exact kit_ref ne14_16 x16.hd ty16 s14_16
    · obtain rfl | rfl | rfl | rfl | rfl | rfl | rfl | rfl | rfl | rfl | rfl | rfl | rfl | rfl | rfl | rfl | rfl : j = 0 ∨ j = 1 ∨ j = 2 ∨ j = 3 ∨ j = 4 ∨ j = 5 ∨ j = 6 ∨ j = 7 ∨ j = 8 ∨ j = 9 ∨ j = 10 ∨ j = 11 ∨ j = 12 ∨ j = 13 ∨ j = 14 ∨ j = 15 ∨ j = 16 := by omega
      · exact kit_ref ne15_0 x0.hd ty0 s15_0
      · exact kit_ref ne15_1 x1.hd ty1 s15_1
      · exact kit_ref ne15_2 x2.hd ty2 s15_2
      · exact kit_ref ne15_3 x3.hd ty3 s15_3
      · exact kit_ref ne15_4 x4.hd ty4 s15_4
      · exact kit_ref ne15_5 x5.hd ty5 s15_5
      · exact kit_ref ne15_6 x6.hd ty6 s15_6
      · exact kit_ref ne15_7 x7.hd ty7 s15_7
      · exact kit_ref ne15_8 x8.hd ty8 s15_8
      · exact kit_ref ne15_9 x9.hd ty9 s15_9
      · exact kit_ref ne15_10 x10.hd ty10 s15_10
      · exact kit_ref ne15_11 x11.hd ty11 s15_11
      · exact kit_ref ne15_12 x12.hd ty12 s15_12
      · exact kit_ref ne15_13 x13.hd ty13 s15_13
      · exact kit_ref ne15_14 x14.hd ty14 s15_14
      · exact kit_self e15
      · exact kit_ref ne15_16 x16.hd ty16 s15_16
    · obtain rfl | rfl | rfl | rfl | rfl | rfl | rfl | rfl | rfl | rfl | rfl | rfl | rfl | rfl | rfl | rfl | rfl : j = 0 ∨ j = 1 ∨ j = 2 ∨ j = 3 ∨ j = 4 ∨ j = 5 ∨ j = 6 ∨ j = 7 ∨ j = 8 ∨ j = 9 ∨ j = 10 ∨ j = 11 ∨ j = 12 ∨ j = 13 ∨ j = 14 ∨ j = 15 ∨ j = 16 := by omega
      · exact kit_ref ne16_0 x0.hd ty0 s16_0
      · exact kit_ref ne16_1 x1.hd ty1 s16_1
      · exact kit_ref ne16_2 x2.hd ty2 s16_2
      · exact kit_ref ne16_3 x3.hd ty3 s16_3
      · exact kit_ref ne16_4 x4.hd ty4 s16_4
      · exact kit_ref ne16_5 x5.hd ty5 s16_5
      · exact kit_ref ne16_6 x6.hd ty6 s16_6
      · exact kit_ref ne16_7 x7.hd ty7 s16_7
      · exact kit_ref ne16_8 x8.hd ty8 s16_8
      · exact kit_ref ne16_9 x9.hd ty9 s16_9
      · exact kit_ref ne16_10 x10.hd ty10 s16_10
      · exact kit_ref ne16_11 x11.hd ty11 s16_11
      · exact kit_ref ne16_12 x12.hd ty12 s16_12
      · exact kit_ref ne16_13 x13.hd ty13 s16_13
      · exact kit_ref ne16_14 x14.hd ty14 s16_14
      · exact kit_ref ne16_15 x15.hd ty15 s16_15
      · exact kit_self e16
  · intro i hi
    obtain rfl | rfl | rfl | rfl | rfl | rfl | rfl | rfl | rfl | rfl | rfl | rfl | rfl | rfl | rfl | rfl | rfl : i = 0 ∨ i = 1 ∨ i = 2 ∨ i = 3 ∨ i = 4 ∨ i = 5 ∨ i = 6 ∨ i = 7 ∨ i = 8 ∨ i = 9 ∨ i = 10 ∨ i = 11 ∨ i = 12 ∨ i = 13 ∨ i = 14 ∨ i = 15 ∨ i = 16 := by omega
    · exact kit_ref neB0 xB.hd tyB sB0
    · exact kit_ref neB1 xB.hd tyB sB1
    · exact kit_ref neB2 xB.hd tyB sB2
    · exact kit_ref neB3 xB.hd tyB sB3
    · exact kit_ref neB4 xB.hd tyB sB4
    · exact kit_ref neB5 xB.hd tyB sB5
    · exact kit_ref neB6 xB.hd tyB sB6
    · exact kit_ref neB7 xB.hd tyB sB7
    · exact kit_ref neB8 xB.hd tyB sB8
    · exact kit_ref neB9 xB.hd tyB sB9
    · exact kit_ref neB10 xB.hd tyB sB10
    · exact kit_ref neB11 xB.hd tyB sB11
    · exact kit_ref neB12 xB.hd tyB sB12
    · exact kit_ref neB13 xB.hd tyB sB13
    · exact kit_ref neB14 xB.hd tyB sB14
    · exact kit_ref neB15 xB.hd tyB sB15
    · exact kit_ref neB16 xB.hd tyB sB16
  · intro i hi
    obtain rfl | rfl | rfl | rfl | rfl | rfl | rfl | rfl | rfl | rfl | rfl | rfl | rfl | rfl | rfl | rfl | rfl : i = 0 ∨ i = 1 ∨ i = 2 ∨ i = 3 ∨ i = 4 ∨ i = 5 ∨ i = 6 ∨ i = 7 ∨ i = 8 ∨ i = 9 ∨ i = 10 ∨ i = 11 ∨ i = 12 ∨ i = 13 ∨ i = 14 ∨ i = 15 ∨ i = 16 := by omega
    · exact kit_V sV0
    · exact kit_V sV1
    · exact kit_V sV2
    · exact kit_V sV3
    · exact kit_V sV4
    · exact kit_V sV5
    · exact kit_V sV6
    · exact kit_V sV7
    · exact kit_V sV8
    · exact kit_V sV9
    · exact kit_V sV10
    · exact kit_V sV11
    · exact kit_V sV12
    · exact kit_V sV13
    · exact kit_V sV14
    · exact kit_V sV15
    · exact kit_V sV16
  · intro i hi
    obtain rfl | rfl | rfl | rfl | rfl | rfl | rfl | rfl | rfl | rfl | rfl | rfl | rfl | rfl | rfl | rfl | rfl : i = 0 ∨ i = 1 ∨ i = 2 ∨ i = 3 ∨ i = 4 ∨ i = 5 ∨ i = 6 ∨ i = 7 ∨ i = 8 ∨ i = 9 ∨ i = 10 ∨ i = 11 ∨ i = 12 ∨ i = 13 ∨ i = 14 ∨ i = 15 ∨ i = 16 := by omega
    · exact x0
    · exact x1
    · exact x2
    · exact x3
    · exact x4
    · exact x5
    · exact x6
    · exact x7
    · exact x8
    · exact x9
    · exact x10
    · exact x11
    · exact x12
    · exact x13
    · exact x14
    · exact x15
    · exact x16
  · intro i hi
    obtain rfl | rfl | rfl | rfl | rfl | rfl | rfl | rfl | rfl | rfl | rfl | rfl | rfl | rfl | rfl : i = 0 ∨ i = 1 ∨ i = 2 ∨ i = 3 ∨ i = 4 ∨ i = 5 ∨ i = 6 ∨ i = 7 ∨ i = 8 ∨ i = 9 ∨ i = 10 ∨ i = 11 ∨ i = 12 ∨ i = 13 ∨ i = 14 := by omega
    · exact ⟨⟨x0.hg, x0.hk, x0.hs, x0.hd⟩, n0⟩
    · exact ⟨⟨x1.hg, x1.hk, x1.hs, x1.hd⟩, n1⟩
    · exact ⟨⟨x2.hg, x2.hk, x2.hs, x2.hd⟩, n2⟩
    · exact ⟨⟨x3.hg, x3.hk, x3.hs, x3.hd⟩, n3⟩
    · exact ⟨⟨x4.hg, x4.hk, x4.hs, x4.hd⟩, n4⟩
    · exact ⟨⟨x5.hg, x5.hk, x5.hs, x5.hd⟩, n5⟩
    · exact ⟨⟨x6.hg, x6.hk, x6.hs, x6.hd⟩, n6⟩
    · exact ⟨⟨x7.hg, x7.hk, x7.hs, x7.hd⟩, n7⟩
    · exact ⟨⟨x8.hg, x8.hk, x8.hs, x8.hd⟩, n8⟩
    · exact ⟨⟨x9.hg, x9.hk, x9.hs, x9.hd⟩, n9⟩
    · exact ⟨⟨x10.hg, x10.hk, x10.hs, x10.hd⟩, n10⟩
    · exact ⟨⟨x11.hg, x11.hk, x11.hs, x11.hd⟩, n11⟩
    · exact ⟨⟨x12.hg, x12.hk, x12.hs, x12.hd⟩, n12⟩
    · exact ⟨⟨x13.hg, x13.hk, x13.hs, x13.hd⟩, n13⟩
    · exact ⟨⟨x14.hg, x14.hk, x14.hs, x14.hd⟩, n14⟩
end
end Cb
set_option Elab.async false
set_option maxRecDepth 100000
open PySem PySem.W PyProof.Rows
set_option maxHeartbeats 0 in
theorem PySem.Challenge.cw_cellbills_k01_errors_by_their_classes_holds : PySem.Challenge.rw_cellbills_k01_errors_by_their_classes.Holds := by
  w_on; o_law; k_head; (case hw => w_witness2)
  k_fill
  refine Cb.walk_g (l := PySem.Challenge.rw_cellbills_k01_errors_by_their_classes) (n := 63) (k := 6) (x := "_law_script") (sp := fun K => Cb.sp_law K) rfl (by decide) rfl ⟨rfl, by decide, by decide⟩ (fun w h Y => PySem.W.kIn_of Y) ?F ?pr
  case pr => exact fun K H a ns _ _ hS => ⟨a, ns, rfl, hS, fun _ => rfl⟩
  case F =>
    intro w mg fa h KX G hmg
    refine' Cb.ends hmg ?T ?dl
    case dl =>
      refine' Cb.has KX G ?a ?l ?c ?k ?b
      (case a => k_is); (case l => k_is); (case c => k_is); (case k => k_is); (case b => exact fun _ _ _ _ _ _ us hl => match us, hl with | [_], _ => rfl)
    case T =>
      refine' Cb.tx_mk ?tg ?d1 ?d2 ?d3 ?z1 ?z2 ?z3 ?b0 ?b1 ?b2 ?b3 ?b4 ?b5 ?b6 ?b7 ?b8 ?b9 ?b10 ?b11 ?b12 ?b13 ?b14 ?b15 ?b16 ?bB ?x0 ?x1 ?x2 ?x3 ?x4 ?x5 ?x6 ?x7 ?x8 ?x9 ?x10 ?x11 ?x12 ?x13 ?x14 ?x15 ?x16 ?xB ?n0 ?n1 ?n2 ?n3 ?n4 ?n5 ?n6 ?n7 ?n8 ?n9 ?n10 ?n11 ?n12 ?n13 ?n14 ?ty0 ?ty1 ?ty2 ?ty3 ?ty4 ?ty5 ?ty6 ?ty7 ?ty8 ?ty9 ?ty10 ?ty11 ?ty12 ?ty13 ?ty14 ?ty15 ?ty16 ?tyB ?sB0 ?neB0 ?sB1 ?neB1 ?sB2 ?neB2 ?sB3 ?neB3 ?sB4 ?neB4 ?sB5 ?neB5 ?sB6 ?neB6 ?sB7 ?neB7 ?sB8 ?neB8 ?sB9 ?neB9 ?sB10 ?neB10 ?sB11 ?neB11 ?sB12 ?neB12 ?sB13 ?neB13 ?sB14 ?neB14 ?sB15 ?neB15 ?sB16 ?neB16 ?sV0 ?sV1 ?sV2 ?sV3 ?sV4 ?sV5 ?sV6 ?sV7 ?sV8 ?sV9 ?sV10 ?sV11 ?sV12 ?sV13 ?sV14 ?sV15 ?sV16 ?sVB ?e0 ?s0_1 ?ne0_1 ?s0_2 ?ne0_2 ?s0_3 ?ne0_3 ?s0_4 ?ne0_4 ?s0_5 ?ne0_5 ?s0_6 ?ne0_6 ?s0_7 ?ne0_7 ?s0_8 ?ne0_8 ?s0_9 ?ne0_9 ?s0_10 ?ne0_10 ?s0_11 ?ne0_11 ?s0_12 ?ne0_12 ?s0_13 ?ne0_13 ?s0_14 ?ne0_14 ?s0_15 ?ne0_15 ?s0_16 ?ne0_16 ?e1 ?s1_0 ?ne1_0 ?s1_2 ?ne1_2 ?s1_3 ?ne1_3 ?s1_4 ?ne1_4 ?s1_5 ?ne1_5 ?s1_6 ?ne1_6 ?s1_7 ?ne1_7 ?s1_8 ?ne1_8 ?s1_9 ?ne1_9 ?s1_10 ?ne1_10 ?s1_11 ?ne1_11 ?s1_12 ?ne1_12 ?s1_13 ?ne1_13 ?s1_14 ?ne1_14 ?s1_15 ?ne1_15 ?s1_16 ?ne1_16 ?e2 ?s2_0 ?ne2_0 ?s2_1 ?ne2_1 ?s2_3 ?ne2_3 ?s2_4 ?ne2_4 ?s2_5 ?ne2_5 ?s2_6 ?ne2_6 ?s2_7 ?ne2_7 ?s2_8 ?ne2_8 ?s2_9 ?ne2_9 ?s2_10 ?ne2_10 ?s2_11 ?ne2_11 ?s2_12 ?ne2_12 ?s2_13 ?ne2_13 ?s2_14 ?ne2_14 ?s2_15 ?ne2_15 ?s2_16 ?ne2_16 ?e3 ?s3_0 ?ne3_0 ?s3_1 ?ne3_1 ?s3_2 ?ne3_2 ?s3_4 ?ne3_4 ?s3_5 ?ne3_5 ?s3_6 ?ne3_6 ?s3_7 ?ne3_7 ?s3_8 ?ne3_8 ?s3_9 ?ne3_9 ?s3_10 ?ne3_10 ?s3_11 ?ne3_11 ?s3_12 ?ne3_12 ?s3_13 ?ne3_13 ?s3_14 ?ne3_14 ?s3_15 ?ne3_15 ?s3_16 ?ne3_16 ?e4 ?s4_0 ?ne4_0 ?s4_1 ?ne4_1 ?s4_2 ?ne4_2 ?s4_3 ?ne4_3 ?s4_5 ?ne4_5 ?s4_6 ?ne4_6 ?s4_7 ?ne4_7 ?s4_8 ?ne4_8 ?s4_9 ?ne4_9 ?s4_10 ?ne4_10 ?s4_11 ?ne4_11 ?s4_12 ?ne4_12 ?s4_13 ?ne4_13 ?s4_14 ?ne4_14 ?s4_15 ?ne4_15 ?s4_16 ?ne4_16 ?e5 ?s5_0 ?ne5_0 ?s5_1 ?ne5_1 ?s5_2 ?ne5_2 ?s5_3 ?ne5_3 ?s5_4 ?ne5_4 ?s5_6 ?ne5_6 ?s5_7 ?ne5_7 ?s5_8 ?ne5_8 ?s5_9 ?ne5_9 ?s5_10 ?ne5_10 ?s5_11 ?ne5_11 ?s5_12 ?ne5_12 ?s5_13 ?ne5_13 ?s5_14 ?ne5_14 ?s5_15 ?ne5_15 ?s5_16 ?ne5_16 ?e6 ?s6_0 ?ne6_0 ?s6_1 ?ne6_1 ?s6_2 ?ne6_2 ?s6_3 ?ne6_3 ?s6_4 ?ne6_4 ?s6_5 ?ne6_5 ?s6_7 ?ne6_7 ?s6_8 ?ne6_8 ?s6_9 ?ne6_9 ?s6_10 ?ne6_10 ?s6_11 ?ne6_11 ?s6_12 ?ne6_12 ?s6_13 ?ne6_13 ?s6_14 ?ne6_14 ?s6_15 ?ne6_15 ?s6_16 ?ne6_16 ?e7 ?s7_0 ?ne7_0 ?s7_1 ?ne7_1 ?s7_2 ?ne7_2 ?s7_3 ?ne7_3 ?s7_4 ?ne7_4 ?s7_5 ?ne7_5 ?s7_6 ?ne7_6 ?s7_8 ?ne7_8 ?s7_9 ?ne7_9 ?s7_10 ?ne7_10 ?s7_11 ?ne7_11 ?s7_12 ?ne7_12 ?s7_13 ?ne7_13 ?s7_14 ?ne7_14 ?s7_15 ?ne7_15 ?s7_16 ?ne7_16 ?e8 ?s8_0 ?ne8_0 ?s8_1 ?ne8_1 ?s8_2 ?ne8_2 ?s8_3 ?ne8_3 ?s8_4 ?ne8_4 ?s8_5 ?ne8_5 ?s8_6 ?ne8_6 ?s8_7 ?ne8_7 ?s8_9 ?ne8_9 ?s8_10 ?ne8_10 ?s8_11 ?ne8_11 ?s8_12 ?ne8_12 ?s8_13 ?ne8_13 ?s8_14 ?ne8_14 ?s8_15 ?ne8_15 ?s8_16 ?ne8_16 ?e9 ?s9_0 ?ne9_0 ?s9_1 ?ne9_1 ?s9_2 ?ne9_2 ?s9_3 ?ne9_3 ?s9_4 ?ne9_4 ?s9_5 ?ne9_5 ?s9_6 ?ne9_6 ?s9_7 ?ne9_7 ?s9_8 ?ne9_8 ?s9_10 ?ne9_10 ?s9_11 ?ne9_11 ?s9_12 ?ne9_12 ?s9_13 ?ne9_13 ?s9_14 ?ne9_14 ?s9_15 ?ne9_15 ?s9_16 ?ne9_16 ?e10 ?s10_0 ?ne10_0 ?s10_1 ?ne10_1 ?s10_2 ?ne10_2 ?s10_3 ?ne10_3 ?s10_4 ?ne10_4 ?s10_5 ?ne10_5 ?s10_6 ?ne10_6 ?s10_7 ?ne10_7 ?s10_8 ?ne10_8 ?s10_9 ?ne10_9 ?s10_11 ?ne10_11 ?s10_12 ?ne10_12 ?s10_13 ?ne10_13 ?s10_14 ?ne10_14 ?s10_15 ?ne10_15 ?s10_16 ?ne10_16 ?e11 ?s11_0 ?ne11_0 ?s11_1 ?ne11_1 ?s11_2 ?ne11_2 ?s11_3 ?ne11_3 ?s11_4 ?ne11_4 ?s11_5 ?ne11_5 ?s11_6 ?ne11_6 ?s11_7 ?ne11_7 ?s11_8 ?ne11_8 ?s11_9 ?ne11_9 ?s11_10 ?ne11_10 ?s11_12 ?ne11_12 ?s11_13 ?ne11_13 ?s11_14 ?ne11_14 ?s11_15 ?ne11_15 ?s11_16 ?ne11_16 ?e12 ?s12_0 ?ne12_0 ?s12_1 ?ne12_1 ?s12_2 ?ne12_2 ?s12_3 ?ne12_3 ?s12_4 ?ne12_4 ?s12_5 ?ne12_5 ?s12_6 ?ne12_6 ?s12_7 ?ne12_7 ?s12_8 ?ne12_8 ?s12_9 ?ne12_9 ?s12_10 ?ne12_10 ?s12_11 ?ne12_11 ?s12_13 ?ne12_13 ?s12_14 ?ne12_14 ?s12_15 ?ne12_15 ?s12_16 ?ne12_16 ?e13 ?s13_0 ?ne13_0 ?s13_1 ?ne13_1 ?s13_2 ?ne13_2 ?s13_3 ?ne13_3 ?s13_4 ?ne13_4 ?s13_5 ?ne13_5 ?s13_6 ?ne13_6 ?s13_7 ?ne13_7 ?s13_8 ?ne13_8 ?s13_9 ?ne13_9 ?s13_10 ?ne13_10 ?s13_11 ?ne13_11 ?s13_12 ?ne13_12 ?s13_14 ?ne13_14 ?s13_15 ?ne13_15 ?s13_16 ?ne13_16 ?e14 ?s14_0 ?ne14_0 ?s14_1 ?ne14_1 ?s14_2 ?ne14_2 ?s14_3 ?ne14_3 ?s14_4 ?ne14_4 ?s14_5 ?ne14_5 ?s14_6 ?ne14_6 ?s14_7 ?ne14_7 ?s14_8 ?ne14_8 ?s14_9 ?ne14_9 ?s14_10 ?ne14_10 ?s14_11 ?ne14_11 ?s14_12 ?ne14_12 ?s14_13 ?ne14_13 ?s14_15 ?ne14_15 ?s14_16 ?ne14_16 ?e15 ?s15_0 ?ne15_0 ?s15_1 ?ne15_1 ?s15_2 ?ne15_2 ?s15_3 ?ne15_3 ?s15_4 ?ne15_4 ?s15_5 ?ne15_5 ?s15_6 ?ne15_6 ?s15_7 ?ne15_7 ?s15_8 ?ne15_8 ?s15_9 ?ne15_9 ?s15_10 ?ne15_10 ?s15_11 ?ne15_11 ?s15_12 ?ne15_12 ?s15_13 ?ne15_13 ?s15_14 ?ne15_14 ?s15_16 ?ne15_16 ?e16 ?s16_0 ?ne16_0 ?s16_1 ?ne16_1 ?s16_2 ?ne16_2 ?s16_3 ?ne16_3 ?s16_4 ?ne16_4 ?s16_5 ?ne16_5 ?s16_6 ?ne16_6 ?s16_7 ?ne16_7 ?s16_8 ?ne16_8 ?s16_9 ?ne16_9 ?s16_10 ?ne16_10 ?s16_11 ?ne16_11 ?s16_12 ?ne16_12 ?s16_13 ?ne16_13 ?s16_14 ?ne16_14 ?s16_15 ?ne16_15
      case tg =>
        refine' ⟨?q1, ?q2, ?q3, ?q4, ?q5, ?q6, ?q7, ?q8, ?q9⟩
        case q1 =>
          refine' Cb.has KX G ?a ?l ?c ?k ?b
          (case a => k_is); (case l => k_is); (case c => k_is); (case k => k_is); (case b => exact fun _ _ _ _ _ _ us hl => match us, hl with | [_, _], _ => rfl)
        case q2 =>
          refine' Cb.has KX G ?a ?l ?c ?k ?b
          (case a => k_is); (case l => k_is); (case c => k_is); (case k => k_is); (case b => exact fun _ _ _ _ _ _ us hl => match us, hl with | [_, _], _ => rfl)
        case q3 =>
          refine' Cb.has KX G ?a ?l ?c ?k ?b
          (case a => k_is); (case l => k_is); (case c => k_is); (case k => k_is); (case b => exact fun _ _ _ _ _ _ us hl => match us, hl with | [_, _], _ => rfl)
        case q4 =>
          refine' Cb.has KX G ?a ?l ?c ?k ?b
          (case a => k_is); (case l => k_is); (case c => k_is); (case k => k_is); (case b => exact fun _ _ _ _ _ _ us hl => match us, hl with | [_, _], _ => rfl)
        case q5 => refine' PySem.W.mg_none_of KX G ?z; (case z => k_is)
        case q6 => refine' PySem.W.mg_none_of KX G ?z; (case z => k_is)
        case q7 => refine' PySem.W.mg_none_of KX G ?z; (case z => k_is)
        case q8 => refine' PySem.W.mg_none_of KX G ?z; (case z => k_is)
        case q9 => refine' PySem.W.mg_none_of KX G ?z; (case z => k_is)
      case d1 =>
        refine' Cb.has KX G ?a ?l ?c ?k ?b
        (case a => k_is); (case l => k_is); (case c => k_is); (case k => k_is); (case b => exact fun _ _ _ _ _ _ us hl => match us, hl with | [_, _], _ => rfl)
      case d2 =>
        refine' Cb.has KX G ?a ?l ?c ?k ?b
        (case a => k_is); (case l => k_is); (case c => k_is); (case k => k_is); (case b => exact fun _ _ _ _ _ _ us hl => match us, hl with | [_, _], _ => rfl)
      case d3 =>
        refine' Cb.has KX G ?a ?l ?c ?k ?b
        (case a => k_is); (case l => k_is); (case c => k_is); (case k => k_is); (case b => exact fun _ _ _ _ _ _ us hl => match us, hl with | [_], _ => rfl)
      case z1 => refine' PySem.W.mg_none_of KX G ?z; (case z => k_is)
      case z2 => refine' PySem.W.mg_none_of KX G ?z; (case z => k_is)
      case z3 => refine' PySem.W.mg_none_of KX G ?z; (case z => k_is)
      case b0 =>
        refine' Cb.bill_mk KX G ?h_a ?h_cls ?h_ve ?h_iC ?h_tf ?h_lI ?h_coI ?h_lcI ?h_vI2 ?h_feI ?h_ceI ?h_clC ?h_iB ?h_lB ?h_coB ?h_lcB ?h_vB2 ?h_feB ?h_ceB ?h_clD ?h_tp ?h_sB ?h_sC ?h_iV ?h_sV ?h_fn ?h_mv ?h_md ?h_sa ?h_nV ?h_ln ?h_ln2 ?h_hI ?h_hB ?h_lT ?h_bI ?h_bI0 ?h_bIk ?h_bB ?h_ns ?h_su ?h_kC ?h_exC ?h_tyC
        case h_a => k_is
        case h_cls => k_is
        case h_ve => decide +kernel
        case h_iC => k_is
        case h_tf => k_is
        case h_lI => k_is
        case h_coI => k_is
        case h_lcI => k_is
        case h_vI2 => exact rfl
        case h_feI => decide +kernel
        case h_ceI => k_is
        case h_clC => k_is
        case h_iB => ks_is
        case h_lB => k_is
        case h_coB => k_is
        case h_lcB => k_is
        case h_vB2 => exact rfl
        case h_feB => decide +kernel
        case h_ceB => k_is
        case h_clD => k_is
        case h_tp => k_is
        case h_sB => k_is
        case h_sC => k_is
        case h_iV => ks_is
        case h_sV => k_is
        case h_fn => k_is
        case h_mv => decide +kernel
        case h_md => exact rfl
        case h_sa => k_is
        case h_nV => k_is
        case h_ln => exact fun _ => rfl
        case h_ln2 => exact fun _ => rfl
        case h_hI => exact rfl
        case h_hB => exact rfl
        case h_lT => k_is
        case h_bI => exact fun _ _ => ⟨_, rfl, rfl⟩
        case h_bI0 => exact fun _ => ⟨_, rfl, rfl⟩
        case h_bIk => exact fun _ _ => ⟨_, rfl, rfl⟩
        case h_bB => exact fun _ => rfl
        case h_ns => show _ = _; decide +kernel
        case h_su => k_is
        case h_kC => k_is
        case h_exC => k_is
        case h_tyC => k_is
      case b1 =>
        refine' Cb.bill_mk KX G ?h_a ?h_cls ?h_ve ?h_iC ?h_tf ?h_lI ?h_coI ?h_lcI ?h_vI2 ?h_feI ?h_ceI ?h_clC ?h_iB ?h_lB ?h_coB ?h_lcB ?h_vB2 ?h_feB ?h_ceB ?h_clD ?h_tp ?h_sB ?h_sC ?h_iV ?h_sV ?h_fn ?h_mv ?h_md ?h_sa ?h_nV ?h_ln ?h_ln2 ?h_hI ?h_hB ?h_lT ?h_bI ?h_bI0 ?h_bIk ?h_bB ?h_ns ?h_su ?h_kC ?h_exC ?h_tyC
        case h_a => k_is
        case h_cls => k_is
        case h_ve => decide +kernel
        case h_iC => k_is
        case h_tf => k_is
        case h_lI => k_is
        case h_coI => k_is
        case h_lcI => k_is
        case h_vI2 => exact rfl
        case h_feI => decide +kernel
        case h_ceI => k_is
        case h_clC => k_is
        case h_iB => ks_is
        case h_lB => k_is
        case h_coB => k_is
        case h_lcB => k_is
        case h_vB2 => exact rfl
        case h_feB => decide +kernel
        case h_ceB => k_is
        case h_clD => k_is
        case h_tp => k_is
        case h_sB => k_is
        case h_sC => k_is
        case h_iV => ks_is
        case h_sV => k_is
        case h_fn => k_is
        case h_mv => decide +kernel
        case h_md => exact rfl
        case h_sa => k_is
        case h_nV => k_is
        case h_ln => exact fun _ => rfl
        case h_ln2 => exact fun _ => rfl
        case h_hI => exact rfl
        case h_hB => exact rfl
        case h_lT => k_is
        case h_bI => exact fun _ _ => ⟨_, rfl, rfl⟩
        case h_bI0 => exact fun _ => ⟨_, rfl, rfl⟩
        case h_bIk => exact fun _ _ => ⟨_, rfl, rfl⟩
        case h_bB => exact fun _ => rfl
        case h_ns => show _ = _; decide +kernel
        case h_su => k_is
        case h_kC => k_is
        case h_exC => k_is
        case h_tyC => k_is
      case b2 =>
        refine' Cb.bill_mk KX G ?h_a ?h_cls ?h_ve ?h_iC ?h_tf ?h_lI ?h_coI ?h_lcI ?h_vI2 ?h_feI ?h_ceI ?h_clC ?h_iB ?h_lB ?h_coB ?h_lcB ?h_vB2 ?h_feB ?h_ceB ?h_clD ?h_tp ?h_sB ?h_sC ?h_iV ?h_sV ?h_fn ?h_mv ?h_md ?h_sa ?h_nV ?h_ln ?h_ln2 ?h_hI ?h_hB ?h_lT ?h_bI ?h_bI0 ?h_bIk ?h_bB ?h_ns ?h_su ?h_kC ?h_exC ?h_tyC
        case h_a => k_is
        case h_cls => k_is
        case h_ve => decide +kernel
        case h_iC => k_is
        case h_tf => k_is
        case h_lI => k_is
        case h_coI => k_is
        case h_lcI => k_is
        case h_vI2 => exact rfl
        case h_feI => decide +kernel
        case h_ceI => k_is
        case h_clC => k_is
        case h_iB => ks_is
        case h_lB => k_is
        case h_coB => k_is
        case h_lcB => k_is
        case h_vB2 => exact rfl
        case h_feB => decide +kernel
        case h_ceB => k_is
        case h_clD => k_is
        case h_tp => k_is
        case h_sB => k_is
        case h_sC => k_is
        case h_iV => ks_is
        case h_sV => k_is
        case h_fn => k_is
        case h_mv => decide +kernel
        case h_md => exact rfl
        case h_sa => k_is
        case h_nV => k_is
        case h_ln => exact fun _ => rfl
        case h_ln2 => exact fun _ => rfl
        case h_hI => exact rfl
        case h_hB => exact rfl
        case h_lT => k_is
        case h_bI => exact fun _ _ => ⟨_, rfl, rfl⟩
        case h_bI0 => exact fun _ => ⟨_, rfl, rfl⟩
        case h_bIk => exact fun _ _ => ⟨_, rfl, rfl⟩
        case h_bB => exact fun _ => rfl
        case h_ns => show _ = _; decide +kernel
        case h_su => k_is
        case h_kC => k_is
        case h_exC => k_is
        case h_tyC => k_is
      case b3 =>
        refine' Cb.bill_mk KX G ?h_a ?h_cls ?h_ve ?h_iC ?h_tf ?h_lI ?h_coI ?h_lcI ?h_vI2 ?h_feI ?h_ceI ?h_clC ?h_iB ?h_lB ?h_coB ?h_lcB ?h_vB2 ?h_feB ?h_ceB ?h_clD ?h_tp ?h_sB ?h_sC ?h_iV ?h_sV ?h_fn ?h_mv ?h_md ?h_sa ?h_nV ?h_ln ?h_ln2 ?h_hI ?h_hB ?h_lT ?h_bI ?h_bI0 ?h_bIk ?h_bB ?h_ns ?h_su ?h_kC ?h_exC ?h_tyC
        case h_a => k_is
        case h_cls => k_is
        case h_ve => decide +kernel
        case h_iC => k_is
        case h_tf => k_is
        case h_lI => k_is
        case h_coI => k_is
        case h_lcI => k_is
        case h_vI2 => exact rfl
        case h_feI => decide +kernel
        case h_ceI => k_is
        case h_clC => k_is
        case h_iB => ks_is
        case h_lB => k_is
        case h_coB => k_is
        case h_lcB => k_is
        case h_vB2 => exact rfl
        case h_feB => decide +kernel
        case h_ceB => k_is
        case h_clD => k_is
        case h_tp => k_is
        case h_sB => k_is
        case h_sC => k_is
        case h_iV => ks_is
        case h_sV => k_is
        case h_fn => k_is
        case h_mv => decide +kernel
        case h_md => exact rfl
        case h_sa => k_is
        case h_nV => k_is
        case h_ln => exact fun _ => rfl
        case h_ln2 => exact fun _ => rfl
        case h_hI => exact rfl
        case h_hB => exact rfl
        case h_lT => k_is
        case h_bI => exact fun _ _ => ⟨_, rfl, rfl⟩
        case h_bI0 => exact fun _ => ⟨_, rfl, rfl⟩
        case h_bIk => exact fun _ _ => ⟨_, rfl, rfl⟩
        case h_bB => exact fun _ => rfl
        case h_ns => show _ = _; decide +kernel
        case h_su => k_is
        case h_kC => k_is
        case h_exC => k_is
        case h_tyC => k_is
      case b4 =>
        refine' Cb.bill_mk KX G ?h_a ?h_cls ?h_ve ?h_iC ?h_tf ?h_lI ?h_coI ?h_lcI ?h_vI2 ?h_feI ?h_ceI ?h_clC ?h_iB ?h_lB ?h_coB ?h_lcB ?h_vB2 ?h_feB ?h_ceB ?h_clD ?h_tp ?h_sB ?h_sC ?h_iV ?h_sV ?h_fn ?h_mv ?h_md ?h_sa ?h_nV ?h_ln ?h_ln2 ?h_hI ?h_hB ?h_lT ?h_bI ?h_bI0 ?h_bIk ?h_bB ?h_ns ?h_su ?h_kC ?h_exC ?h_tyC
        case h_a => k_is
        case h_cls => k_is
        case h_ve => decide +kernel
        case h_iC => k_is
        case h_tf => k_is
        case h_lI => k_is
        case h_coI => k_is
        case h_lcI => k_is
        case h_vI2 => exact rfl
        case h_feI => decide +kernel
        case h_ceI => k_is
        case h_clC => k_is
        case h_iB => ks_is
        case h_lB => k_is
        case h_coB => k_is
        case h_lcB => k_is
        case h_vB2 => exact rfl
        case h_feB => decide +kernel
        case h_ceB => k_is
        case h_clD => k_is
        case h_tp => k_is
        case h_sB => k_is
        case h_sC => k_is
        case h_iV => ks_is
        case h_sV => k_is
        case h_fn => k_is
        case h_mv => decide +kernel
        case h_md => exact rfl
        case h_sa => k_is
        case h_nV => k_is
        case h_ln => exact fun _ => rfl
        case h_ln2 => exact fun _ => rfl
        case h_hI => exact rfl
        case h_hB => exact rfl
        case h_lT => k_is
        case h_bI => exact fun _ _ => ⟨_, rfl, rfl⟩
        case h_bI0 => exact fun _ => ⟨_, rfl, rfl⟩
        case h_bIk => exact fun _ _ => ⟨_, rfl, rfl⟩
        case h_bB => exact fun _ => rfl
        case h_ns => show _ = _; decide +kernel
        case h_su => k_is
        case h_kC => k_is
        case h_exC => k_is
        case h_tyC => k_is
      case b5 =>
        refine' Cb.bill_mk KX G ?h_a ?h_cls ?h_ve ?h_iC ?h_tf ?h_lI ?h_coI ?h_lcI ?h_vI2 ?h_feI ?h_ceI ?h_clC ?h_iB ?h_lB ?h_coB ?h_lcB ?h_vB2 ?h_feB ?h_ceB ?h_clD ?h_tp ?h_sB ?h_sC ?h_iV ?h_sV ?h_fn ?h_mv ?h_md ?h_sa ?h_nV ?h_ln ?h_ln2 ?h_hI ?h_hB ?h_lT ?h_bI ?h_bI0 ?h_bIk ?h_bB ?h_ns ?h_su ?h_kC ?h_exC ?h_tyC
        case h_a => k_is
        case h_cls => k_is
        case h_ve => decide +kernel
        case h_iC => k_is
        case h_tf => k_is
        case h_lI => k_is
        case h_coI => k_is
        case h_lcI => k_is
        case h_vI2 => exact rfl
        case h_feI => decide +kernel
        case h_ceI => k_is
        case h_clC => k_is
        case h_iB => ks_is
        case h_lB => k_is
        case h_coB => k_is
        case h_lcB => k_is
        case h_vB2 => exact rfl
        case h_feB => decide +kernel
        case h_ceB => k_is
        case h_clD => k_is
        case h_tp => k_is
        case h_sB => k_is
        case h_sC => k_is
        case h_iV => ks_is
        case h_sV => k_is
        case h_fn => k_is
        case h_mv => decide +kernel
        case h_md => exact rfl
        case h_sa => k_is
        case h_nV => k_is
        case h_ln => exact fun _ => rfl
        case h_ln2 => exact fun _ => rfl
        case h_hI => exact rfl
        case h_hB => exact rfl
        case h_lT => k_is
        case h_bI => exact fun _ _ => ⟨_, rfl, rfl⟩
        case h_bI0 => exact fun _ => ⟨_, rfl, rfl⟩
        case h_bIk => exact fun _ _ => ⟨_, rfl, rfl⟩
        case h_bB => exact fun _ => rfl
        case h_ns => show _ = _; decide +kernel
        case h_su => k_is
        case h_kC => k_is
        case h_exC => k_is
        case h_tyC => k_is
      case b6 =>
        refine' Cb.bill_mk KX G ?h_a ?h_cls ?h_ve ?h_iC ?h_tf ?h_lI ?h_coI ?h_lcI ?h_vI2 ?h_feI ?h_ceI ?h_clC ?h_iB ?h_lB ?h_coB ?h_lcB ?h_vB2 ?h_feB ?h_ceB ?h_clD ?h_tp ?h_sB ?h_sC ?h_iV ?h_sV ?h_fn ?h_mv ?h_md ?h_sa ?h_nV ?h_ln ?h_ln2 ?h_hI ?h_hB ?h_lT ?h_bI ?h_bI0 ?h_bIk ?h_bB ?h_ns ?h_su ?h_kC ?h_exC ?h_tyC
        case h_a => k_is
        case h_cls => k_is
        case h_ve => decide +kernel
        case h_iC => k_is
        case h_tf => k_is
        case h_lI => k_is
        case h_coI => k_is
        case h_lcI => k_is
        case h_vI2 => exact rfl
        case h_feI => decide +kernel
        case h_ceI => k_is
        case h_clC => k_is
        case h_iB => ks_is
        case h_lB => k_is
        case h_coB => k_is
        case h_lcB => k_is
        case h_vB2 => exact rfl
        case h_feB => decide +kernel
        case h_ceB => k_is
        case h_clD => k_is
        case h_tp => k_is
        case h_sB => k_is
        case h_sC => k_is
        case h_iV => ks_is
        case h_sV => k_is
        case h_fn => k_is
        case h_mv => decide +kernel
        case h_md => exact rfl
        case h_sa => k_is
        case h_nV => k_is
        case h_ln => exact fun _ => rfl
        case h_ln2 => exact fun _ => rfl
        case h_hI => exact rfl
        case h_hB => exact rfl
        case h_lT => k_is
        case h_bI => exact fun _ _ => ⟨_, rfl, rfl⟩
        case h_bI0 => exact fun _ => ⟨_, rfl, rfl⟩
        case h_bIk => exact fun _ _ => ⟨_, rfl, rfl⟩
        case h_bB => exact fun _ => rfl
        case h_ns => show _ = _; decide +kernel
        case h_su => k_is
        case h_kC => k_is
        case h_exC => k_is
        case h_tyC => k_is
      case b7 =>
        refine' Cb.bill_mk KX G ?h_a ?h_cls ?h_ve ?h_iC ?h_tf ?h_lI ?h_coI ?h_lcI ?h_vI2 ?h_feI ?h_ceI ?h_clC ?h_iB ?h_lB ?h_coB ?h_lcB ?h_vB2 ?h_feB ?h_ceB ?h_clD ?h_tp ?h_sB ?h_sC ?h_iV ?h_sV ?h_fn ?h_mv ?h_md ?h_sa ?h_nV ?h_ln ?h_ln2 ?h_hI ?h_hB ?h_lT ?h_bI ?h_bI0 ?h_bIk ?h_bB ?h_ns ?h_su ?h_kC ?h_exC ?h_tyC
        case h_a => k_is
        case h_cls => k_is
        case h_ve => decide +kernel
        case h_iC => k_is
        case h_tf => k_is
        case h_lI => k_is
        case h_coI => k_is
        case h_lcI => k_is
        case h_vI2 => exact rfl
        case h_feI => decide +kernel
        case h_ceI => k_is
        case h_clC => k_is
        case h_iB => ks_is
        case h_lB => k_is
        case h_coB => k_is
        case h_lcB => k_is
        case h_vB2 => exact rfl
        case h_feB => decide +kernel
        case h_ceB => k_is
        case h_clD => k_is
        case h_tp => k_is
        case h_sB => k_is
        case h_sC => k_is
        case h_iV => ks_is
        case h_sV => k_is
        case h_fn => k_is
        case h_mv => decide +kernel
        case h_md => exact rfl
        case h_sa => k_is
        case h_nV => k_is
        case h_ln => exact fun _ => rfl
        case h_ln2 => exact fun _ => rfl
        case h_hI => exact rfl
        case h_hB => exact rfl
        case h_lT => k_is
        case h_bI => exact fun _ _ => ⟨_, rfl, rfl⟩
        case h_bI0 => exact fun _ => ⟨_, rfl, rfl⟩
        case h_bIk => exact fun _ _ => ⟨_, rfl, rfl⟩
        case h_bB => exact fun _ => rfl
        case h_ns => show _ = _; decide +kernel
        case h_su => k_is
        case h_kC => k_is
        case h_exC => k_is
        case h_tyC => k_is
      case b8 =>
        refine' Cb.bill_mk KX G ?h_a ?h_cls ?h_ve ?h_iC ?h_tf ?h_lI ?h_coI ?h_lcI ?h_vI2 ?h_feI ?h_ceI ?h_clC ?h_iB ?h_lB ?h_coB ?h_lcB ?h_vB2 ?h_feB ?h_ceB ?h_clD ?h_tp ?h_sB ?h_sC ?h_iV ?h_sV ?h_fn ?h_mv ?h_md ?h_sa ?h_nV ?h_ln ?h_ln2 ?h_hI ?h_hB ?h_lT ?h_bI ?h_bI0 ?h_bIk ?h_bB ?h_ns ?h_su ?h_kC ?h_exC ?h_tyC
        case h_a => k_is
        case h_cls => k_is
        case h_ve => decide +kernel
        case h_iC => k_is
        case h_tf => k_is
        case h_lI => k_is
        case h_coI => k_is
        case h_lcI => k_is
        case h_vI2 => exact rfl
        case h_feI => decide +kernel
        case h_ceI => k_is
        case h_clC => k_is
        case h_iB => ks_is
        case h_lB => k_is
        case h_coB => k_is
        case h_lcB => k_is
        case h_vB2 => exact rfl
        case h_feB => decide +kernel
        case h_ceB => k_is
        case h_clD => k_is
        case h_tp => k_is
        case h_sB => k_is
        case h_sC => k_is
        case h_iV => ks_is
        case h_sV => k_is
        case h_fn => k_is
        case h_mv => decide +kernel
        case h_md => exact rfl
        case h_sa => k_is
        case h_nV => k_is
        case h_ln => exact fun _ => rfl
        case h_ln2 => exact fun _ => rfl
        case h_hI => exact rfl
        case h_hB => exact rfl
        case h_lT => k_is
        case h_bI => exact fun _ _ => ⟨_, rfl, rfl⟩
        case h_bI0 => exact fun _ => ⟨_, rfl, rfl⟩
        case h_bIk => exact fun _ _ => ⟨_, rfl, rfl⟩
        case h_bB => exact fun _ => rfl
        case h_ns => show _ = _; decide +kernel
        case h_su => k_is
        case h_kC => k_is
        case h_exC => k_is
        case h_tyC => k_is
      case b9 =>
        refine' Cb.bill_mk KX G ?h_a ?h_cls ?h_ve ?h_iC ?h_tf ?h_lI ?h_coI ?h_lcI ?h_vI2 ?h_feI ?h_ceI ?h_clC ?h_iB ?h_lB ?h_coB ?h_lcB ?h_vB2 ?h_feB ?h_ceB ?h_clD ?h_tp ?h_sB ?h_sC ?h_iV ?h_sV ?h_fn ?h_mv ?h_md ?h_sa ?h_nV ?h_ln ?h_ln2 ?h_hI ?h_hB ?h_lT ?h_bI ?h_bI0 ?h_bIk ?h_bB ?h_ns ?h_su ?h_kC ?h_exC ?h_tyC
        case h_a => k_is
        case h_cls => k_is
        case h_ve => decide +kernel
        case h_iC => k_is
        case h_tf => k_is
        case h_lI => k_is
        case h_coI => k_is
        case h_lcI => k_is
        case h_vI2 => exact rfl
        case h_feI => decide +kernel
        case h_ceI => k_is
        case h_clC => k_is
        case h_iB => ks_is
        case h_lB => k_is
        case h_coB => k_is
        case h_lcB => k_is
        case h_vB2 => exact rfl
        case h_feB => decide +kernel
        case h_ceB => k_is
        case h_clD => k_is
        case h_tp => k_is
        case h_sB => k_is
        case h_sC => k_is
        case h_iV => ks_is
        case h_sV => k_is
        case h_fn => k_is
        case h_mv => decide +kernel
        case h_md => exact rfl
        case h_sa => k_is
        case h_nV => k_is
        case h_ln => exact fun _ => rfl
        case h_ln2 => exact fun _ => rfl
        case h_hI => exact rfl
        case h_hB => exact rfl
        case h_lT => k_is
        case h_bI => exact fun _ _ => ⟨_, rfl, rfl⟩
        case h_bI0 => exact fun _ => ⟨_, rfl, rfl⟩
        case h_bIk => exact fun _ _ => ⟨_, rfl, rfl⟩
        case h_bB => exact fun _ => rfl
        case h_ns => show _ = _; decide +kernel
        case h_su => k_is
        case h_kC => k_is
        case h_exC => k_is
        case h_tyC => k_is
      case b10 =>
        refine' Cb.bill_mk KX G ?h_a ?h_cls ?h_ve ?h_iC ?h_tf ?h_lI ?h_coI ?h_lcI ?h_vI2 ?h_feI ?h_ceI ?h_clC ?h_iB ?h_lB ?h_coB ?h_lcB ?h_vB2 ?h_feB ?h_ceB ?h_clD ?h_tp ?h_sB ?h_sC ?h_iV ?h_sV ?h_fn ?h_mv ?h_md ?h_sa ?h_nV ?h_ln ?h_ln2 ?h_hI ?h_hB ?h_lT ?h_bI ?h_bI0 ?h_bIk ?h_bB ?h_ns ?h_su ?h_kC ?h_exC ?h_tyC
        case h_a => k_is
        case h_cls => k_is
        case h_ve => decide +kernel
        case h_iC => k_is
        case h_tf => k_is
        case h_lI => k_is
        case h_coI => k_is
        case h_lcI => k_is
        case h_vI2 => exact rfl
        case h_feI => decide +kernel
        case h_ceI => k_is
        case h_clC => k_is
        case h_iB => ks_is
        case h_lB => k_is
        case h_coB => k_is
        case h_lcB => k_is
        case h_vB2 => exact rfl
        case h_feB => decide +kernel
        case h_ceB => k_is
        case h_clD => k_is
        case h_tp => k_is
        case h_sB => k_is
        case h_sC => k_is
        case h_iV => ks_is
        case h_sV => k_is
        case h_fn => k_is
        case h_mv => decide +kernel
        case h_md => exact rfl
        case h_sa => k_is
        case h_nV => k_is
        case h_ln => exact fun _ => rfl
        case h_ln2 => exact fun _ => rfl
        case h_hI => exact rfl
        case h_hB => exact rfl
        case h_lT => k_is
        case h_bI => exact fun _ _ => ⟨_, rfl, rfl⟩
        case h_bI0 => exact fun _ => ⟨_, rfl, rfl⟩
        case h_bIk => exact fun _ _ => ⟨_, rfl, rfl⟩
        case h_bB => exact fun _ => rfl
        case h_ns => show _ = _; decide +kernel
        case h_su => k_is
        case h_kC => k_is
        case h_exC => k_is
        case h_tyC => k_is
      case b11 =>
        refine' Cb.bill_mk KX G ?h_a ?h_cls ?h_ve ?h_iC ?h_tf ?h_lI ?h_coI ?h_lcI ?h_vI2 ?h_feI ?h_ceI ?h_clC ?h_iB ?h_lB ?h_coB ?h_lcB ?h_vB2 ?h_feB ?h_ceB ?h_clD ?h_tp ?h_sB ?h_sC ?h_iV ?h_sV ?h_fn ?h_mv ?h_md ?h_sa ?h_nV ?h_ln ?h_ln2 ?h_hI ?h_hB ?h_lT ?h_bI ?h_bI0 ?h_bIk ?h_bB ?h_ns ?h_su ?h_kC ?h_exC ?h_tyC
        case h_a => k_is
        case h_cls => k_is
        case h_ve => decide +kernel
        case h_iC => k_is
        case h_tf => k_is
        case h_lI => k_is
        case h_coI => k_is
        case h_lcI => k_is
        case h_vI2 => exact rfl
        case h_feI => decide +kernel
        case h_ceI => k_is
        case h_clC => k_is
        case h_iB => ks_is
        case h_lB => k_is
        case h_coB => k_is
        case h_lcB => k_is
        case h_vB2 => exact rfl
        case h_feB => decide +kernel
        case h_ceB => k_is
        case h_clD => k_is
        case h_tp => k_is
        case h_sB => k_is
        case h_sC => k_is
        case h_iV => ks_is
        case h_sV => k_is
        case h_fn => k_is
        case h_mv => decide +kernel
        case h_md => exact rfl
        case h_sa => k_is
        case h_nV => k_is
        case h_ln => exact fun _ => rfl
        case h_ln2 => exact fun _ => rfl
        case h_hI => exact rfl
        case h_hB => exact rfl
        case h_lT => k_is
        case h_bI => exact fun _ _ => ⟨_, rfl, rfl⟩
        case h_bI0 => exact fun _ => ⟨_, rfl, rfl⟩
        case h_bIk => exact fun _ _ => ⟨_, rfl, rfl⟩
        case h_bB => exact fun _ => rfl
        case h_ns => show _ = _; decide +kernel
        case h_su => k_is
        case h_kC => k_is
        case h_exC => k_is
        case h_tyC => k_is
      case b12 =>
        refine' Cb.bill_mk KX G ?h_a ?h_cls ?h_ve ?h_iC ?h_tf ?h_lI ?h_coI ?h_lcI ?h_vI2 ?h_feI ?h_ceI ?h_clC ?h_iB ?h_lB ?h_coB ?h_lcB ?h_vB2 ?h_feB ?h_ceB ?h_clD ?h_tp ?h_sB ?h_sC ?h_iV ?h_sV ?h_fn ?h_mv ?h_md ?h_sa ?h_nV ?h_ln ?h_ln2 ?h_hI ?h_hB ?h_lT ?h_bI ?h_bI0 ?h_bIk ?h_bB ?h_ns ?h_su ?h_kC ?h_exC ?h_tyC
        case h_a => k_is
        case h_cls => k_is
        case h_ve => decide +kernel
        case h_iC => k_is
        case h_tf => k_is
        case h_lI => k_is
        case h_coI => k_is
        case h_lcI => k_is
        case h_vI2 => exact rfl
        case h_feI => decide +kernel
        case h_ceI => k_is
        case h_clC => k_is
        case h_iB => ks_is
        case h_lB => k_is
        case h_coB => k_is
        case h_lcB => k_is
        case h_vB2 => exact rfl
        case h_feB => decide +kernel
        case h_ceB => k_is
        case h_clD => k_is
        case h_tp => k_is
        case h_sB => k_is
        case h_sC => k_is
        case h_iV => ks_is
        case h_sV => k_is
        case h_fn => k_is
        case h_mv => decide +kernel
        case h_md => exact rfl
        case h_sa => k_is
        case h_nV => k_is
        case h_ln => exact fun _ => rfl
        case h_ln2 => exact fun _ => rfl
        case h_hI => exact rfl
        case h_hB => exact rfl
        case h_lT => k_is
        case h_bI => exact fun _ _ => ⟨_, rfl, rfl⟩
        case h_bI0 => exact fun _ => ⟨_, rfl, rfl⟩
        case h_bIk => exact fun _ _ => ⟨_, rfl, rfl⟩
        case h_bB => exact fun _ => rfl
        case h_ns => show _ = _; decide +kernel
        case h_su => k_is
        case h_kC => k_is
        case h_exC => k_is
        case h_tyC => k_is
      case b13 =>
        refine' Cb.bill_mk KX G ?h_a ?h_cls ?h_ve ?h_iC ?h_tf ?h_lI ?h_coI ?h_lcI ?h_vI2 ?h_feI ?h_ceI ?h_clC ?h_iB ?h_lB ?h_coB ?h_lcB ?h_vB2 ?h_feB ?h_ceB ?h_clD ?h_tp ?h_sB ?h_sC ?h_iV ?h_sV ?h_fn ?h_mv ?h_md ?h_sa ?h_nV ?h_ln ?h_ln2 ?h_hI ?h_hB ?h_lT ?h_bI ?h_bI0 ?h_bIk ?h_bB ?h_ns ?h_su ?h_kC ?h_exC ?h_tyC
        case h_a => k_is
        case h_cls => k_is
        case h_ve => decide +kernel
        case h_iC => k_is
        case h_tf => k_is
        case h_lI => k_is
        case h_coI => k_is
        case h_lcI => k_is
        case h_vI2 => exact rfl
        case h_feI => decide +kernel
        case h_ceI => k_is
        case h_clC => k_is
        case h_iB => ks_is
        case h_lB => k_is
        case h_coB => k_is
        case h_lcB => k_is
        case h_vB2 => exact rfl
        case h_feB => decide +kernel
        case h_ceB => k_is
        case h_clD => k_is
        case h_tp => k_is
        case h_sB => k_is
        case h_sC => k_is
        case h_iV => ks_is
        case h_sV => k_is
        case h_fn => k_is
        case h_mv => decide +kernel
        case h_md => exact rfl
        case h_sa => k_is
        case h_nV => k_is
        case h_ln => exact fun _ => rfl
        case h_ln2 => exact fun _ => rfl
        case h_hI => exact rfl
        case h_hB => exact rfl
        case h_lT => k_is
        case h_bI => exact fun _ _ => ⟨_, rfl, rfl⟩
        case h_bI0 => exact fun _ => ⟨_, rfl, rfl⟩
        case h_bIk => exact fun _ _ => ⟨_, rfl, rfl⟩
        case h_bB => exact fun _ => rfl
        case h_ns => show _ = _; decide +kernel
        case h_su => k_is
        case h_kC => k_is
        case h_exC => k_is
        case h_tyC => k_is
      case b14 =>
        refine' Cb.bill_mk KX G ?h_a ?h_cls ?h_ve ?h_iC ?h_tf ?h_lI ?h_coI ?h_lcI ?h_vI2 ?h_feI ?h_ceI ?h_clC ?h_iB ?h_lB ?h_coB ?h_lcB ?h_vB2 ?h_feB ?h_ceB ?h_clD ?h_tp ?h_sB ?h_sC ?h_iV ?h_sV ?h_fn ?h_mv ?h_md ?h_sa ?h_nV ?h_ln ?h_ln2 ?h_hI ?h_hB ?h_lT ?h_bI ?h_bI0 ?h_bIk ?h_bB ?h_ns ?h_su ?h_kC ?h_exC ?h_tyC
        case h_a => k_is
        case h_cls => k_is
        case h_ve => decide +kernel
        case h_iC => k_is
        case h_tf => k_is
        case h_lI => k_is
        case h_coI => k_is
        case h_lcI => k_is
        case h_vI2 => exact rfl
        case h_feI => decide +kernel
        case h_ceI => k_is
        case h_clC => k_is
        case h_iB => ks_is
        case h_lB => k_is
        case h_coB => k_is
        case h_lcB => k_is
        case h_vB2 => exact rfl
        case h_feB => decide +kernel
        case h_ceB => k_is
        case h_clD => k_is
        case h_tp => k_is
        case h_sB => k_is
        case h_sC => k_is
        case h_iV => ks_is
        case h_sV => k_is
        case h_fn => k_is
        case h_mv => decide +kernel
        case h_md => exact rfl
        case h_sa => k_is
        case h_nV => k_is
        case h_ln => exact fun _ => rfl
        case h_ln2 => exact fun _ => rfl
        case h_hI => exact rfl
        case h_hB => exact rfl
        case h_lT => k_is
        case h_bI => exact fun _ _ => ⟨_, rfl, rfl⟩
        case h_bI0 => exact fun _ => ⟨_, rfl, rfl⟩
        case h_bIk => exact fun _ _ => ⟨_, rfl, rfl⟩
        case h_bB => exact fun _ => rfl
        case h_ns => show _ = _; decide +kernel
        case h_su => k_is
        case h_kC => k_is
        case h_exC => k_is
        case h_tyC => k_is
      case b15 =>
        refine' Cb.bare_mk KX G ?h_a ?h_cls ?h_ve ?h_iB ?h_tf ?h_lB ?h_coB ?h_lcB ?h_vB2 ?h_feB ?h_ceB ?h_clC ?h_clD ?h_tp ?h_sB ?h_iV ?h_sV ?h_ln2 ?h_hB ?h_bB ?h_ns ?h_su ?h_kC ?h_exC ?h_tyC
        case h_a => k_is
        case h_cls => k_is
        case h_ve => decide +kernel
        case h_iB => k_is
        case h_tf => k_is
        case h_lB => k_is
        case h_coB => k_is
        case h_lcB => k_is
        case h_vB2 => exact rfl
        case h_feB => decide +kernel
        case h_ceB => k_is
        case h_clC => k_is
        case h_clD => k_is
        case h_tp => k_is
        case h_sB => k_is
        case h_iV => ks_is
        case h_sV => k_is
        case h_ln2 => exact fun _ => rfl
        case h_hB => exact rfl
        case h_bB => exact fun _ => rfl
        case h_ns => show _ = _; decide +kernel
        case h_su => k_is
        case h_kC => k_is
        case h_exC => k_is
        case h_tyC => k_is
      case b16 =>
        refine' Cb.bare_mk KX G ?h_a ?h_cls ?h_ve ?h_iB ?h_tf ?h_lB ?h_coB ?h_lcB ?h_vB2 ?h_feB ?h_ceB ?h_clC ?h_clD ?h_tp ?h_sB ?h_iV ?h_sV ?h_ln2 ?h_hB ?h_bB ?h_ns ?h_su ?h_kC ?h_exC ?h_tyC
        case h_a => k_is
        case h_cls => k_is
        case h_ve => decide +kernel
        case h_iB => k_is
        case h_tf => k_is
        case h_lB => k_is
        case h_coB => k_is
        case h_lcB => k_is
        case h_vB2 => exact rfl
        case h_feB => decide +kernel
        case h_ceB => k_is
        case h_clC => k_is
        case h_clD => k_is
        case h_tp => k_is
        case h_sB => k_is
        case h_iV => ks_is
        case h_sV => k_is
        case h_ln2 => exact fun _ => rfl
        case h_hB => exact rfl
        case h_bB => exact fun _ => rfl
        case h_ns => show _ = _; decide +kernel
        case h_su => k_is
        case h_kC => k_is
        case h_exC => k_is
        case h_tyC => k_is
      case bB =>
        refine' Cb.bare_mk KX G ?h_a ?h_cls ?h_ve ?h_iB ?h_tf ?h_lB ?h_coB ?h_lcB ?h_vB2 ?h_feB ?h_ceB ?h_clC ?h_clD ?h_tp ?h_sB ?h_iV ?h_sV ?h_ln2 ?h_hB ?h_bB ?h_ns ?h_su ?h_kC ?h_exC ?h_tyC
        case h_a => k_is
        case h_cls => k_is
        case h_ve => decide +kernel
        case h_iB => k_is
        case h_tf => k_is
        case h_lB => k_is
        case h_coB => k_is
        case h_lcB => k_is
        case h_vB2 => exact rfl
        case h_feB => decide +kernel
        case h_ceB => k_is
        case h_clC => k_is
        case h_clD => k_is
        case h_tp => k_is
        case h_sB => k_is
        case h_iV => ks_is
        case h_sV => k_is
        case h_ln2 => exact fun _ => rfl
        case h_hB => exact rfl
        case h_bB => exact fun _ => rfl
        case h_ns => show _ = _; decide +kernel
        case h_su => k_is
        case h_kC => k_is
        case h_exC => k_is
        case h_tyC => k_is
      case x0 => (refine' ⟨?h_1, ?h_2, ?h_3, ?h_4, ?h_5, ?h_6, ?h_7, ?h_8⟩; (case h_1 => k_is); (case h_2 => k_is); (case h_3 => k_is); (case h_4 => k_is); (case h_5 => k_is); (case h_6 => k_is); (case h_7 => k_is); (case h_8 => k_is))
      case x1 => (refine' ⟨?h_1, ?h_2, ?h_3, ?h_4, ?h_5, ?h_6, ?h_7, ?h_8⟩; (case h_1 => k_is); (case h_2 => k_is); (case h_3 => k_is); (case h_4 => k_is); (case h_5 => k_is); (case h_6 => k_is); (case h_7 => k_is); (case h_8 => k_is))
      case x2 => (refine' ⟨?h_1, ?h_2, ?h_3, ?h_4, ?h_5, ?h_6, ?h_7, ?h_8⟩; (case h_1 => k_is); (case h_2 => k_is); (case h_3 => k_is); (case h_4 => k_is); (case h_5 => k_is); (case h_6 => k_is); (case h_7 => k_is); (case h_8 => k_is))
      case x3 => (refine' ⟨?h_1, ?h_2, ?h_3, ?h_4, ?h_5, ?h_6, ?h_7, ?h_8⟩; (case h_1 => k_is); (case h_2 => k_is); (case h_3 => k_is); (case h_4 => k_is); (case h_5 => k_is); (case h_6 => k_is); (case h_7 => k_is); (case h_8 => k_is))
      case x4 => (refine' ⟨?h_1, ?h_2, ?h_3, ?h_4, ?h_5, ?h_6, ?h_7, ?h_8⟩; (case h_1 => k_is); (case h_2 => k_is); (case h_3 => k_is); (case h_4 => k_is); (case h_5 => k_is); (case h_6 => k_is); (case h_7 => k_is); (case h_8 => k_is))
      case x5 => (refine' ⟨?h_1, ?h_2, ?h_3, ?h_4, ?h_5, ?h_6, ?h_7, ?h_8⟩; (case h_1 => k_is); (case h_2 => k_is); (case h_3 => k_is); (case h_4 => k_is); (case h_5 => k_is); (case h_6 => k_is); (case h_7 => k_is); (case h_8 => k_is))
      case x6 => (refine' ⟨?h_1, ?h_2, ?h_3, ?h_4, ?h_5, ?h_6, ?h_7, ?h_8⟩; (case h_1 => k_is); (case h_2 => k_is); (case h_3 => k_is); (case h_4 => k_is); (case h_5 => k_is); (case h_6 => k_is); (case h_7 => k_is); (case h_8 => k_is))
      case x7 => (refine' ⟨?h_1, ?h_2, ?h_3, ?h_4, ?h_5, ?h_6, ?h_7, ?h_8⟩; (case h_1 => k_is); (case h_2 => k_is); (case h_3 => k_is); (case h_4 => k_is); (case h_5 => k_is); (case h_6 => k_is); (case h_7 => k_is); (case h_8 => k_is))
      case x8 => (refine' ⟨?h_1, ?h_2, ?h_3, ?h_4, ?h_5, ?h_6, ?h_7, ?h_8⟩; (case h_1 => k_is); (case h_2 => k_is); (case h_3 => k_is); (case h_4 => k_is); (case h_5 => k_is); (case h_6 => k_is); (case h_7 => k_is); (case h_8 => k_is))
      case x9 => (refine' ⟨?h_1, ?h_2, ?h_3, ?h_4, ?h_5, ?h_6, ?h_7, ?h_8⟩; (case h_1 => k_is); (case h_2 => k_is); (case h_3 => k_is); (case h_4 => k_is); (case h_5 => k_is); (case h_6 => k_is); (case h_7 => k_is); (case h_8 => k_is))
      case x10 => (refine' ⟨?h_1, ?h_2, ?h_3, ?h_4, ?h_5, ?h_6, ?h_7, ?h_8⟩; (case h_1 => k_is); (case h_2 => k_is); (case h_3 => k_is); (case h_4 => k_is); (case h_5 => k_is); (case h_6 => k_is); (case h_7 => k_is); (case h_8 => k_is))
      case x11 => (refine' ⟨?h_1, ?h_2, ?h_3, ?h_4, ?h_5, ?h_6, ?h_7, ?h_8⟩; (case h_1 => k_is); (case h_2 => k_is); (case h_3 => k_is); (case h_4 => k_is); (case h_5 => k_is); (case h_6 => k_is); (case h_7 => k_is); (case h_8 => k_is))
      case x12 => (refine' ⟨?h_1, ?h_2, ?h_3, ?h_4, ?h_5, ?h_6, ?h_7, ?h_8⟩; (case h_1 => k_is); (case h_2 => k_is); (case h_3 => k_is); (case h_4 => k_is); (case h_5 => k_is); (case h_6 => k_is); (case h_7 => k_is); (case h_8 => k_is))
      case x13 => (refine' ⟨?h_1, ?h_2, ?h_3, ?h_4, ?h_5, ?h_6, ?h_7, ?h_8⟩; (case h_1 => k_is); (case h_2 => k_is); (case h_3 => k_is); (case h_4 => k_is); (case h_5 => k_is); (case h_6 => k_is); (case h_7 => k_is); (case h_8 => k_is))
      case x14 => (refine' ⟨?h_1, ?h_2, ?h_3, ?h_4, ?h_5, ?h_6, ?h_7, ?h_8⟩; (case h_1 => k_is); (case h_2 => k_is); (case h_3 => k_is); (case h_4 => k_is); (case h_5 => k_is); (case h_6 => k_is); (case h_7 => k_is); (case h_8 => k_is))
      case x15 => (refine' ⟨?h_1, ?h_2, ?h_3, ?h_4, ?h_5, ?h_6, ?h_7, ?h_8⟩; (case h_1 => k_is); (case h_2 => k_is); (case h_3 => k_is); (case h_4 => k_is); (case h_5 => k_is); (case h_6 => k_is); (case h_7 => k_is); (case h_8 => k_is))
      case x16 => (refine' ⟨?h_1, ?h_2, ?h_3, ?h_4, ?h_5, ?h_6, ?h_7, ?h_8⟩; (case h_1 => k_is); (case h_2 => k_is); (case h_3 => k_is); (case h_4 => k_is); (case h_5 => k_is); (case h_6 => k_is); (case h_7 => k_is); (case h_8 => k_is))
      case xB => (refine' ⟨?h_1, ?h_2, ?h_3, ?h_4, ?h_5, ?h_6, ?h_7, ?h_8⟩; (case h_1 => k_is); (case h_2 => k_is); (case h_3 => k_is); (case h_4 => k_is); (case h_5 => k_is); (case h_6 => k_is); (case h_7 => k_is); (case h_8 => k_is))
      case n0 => k_is
      case n1 => k_is
      case n2 => k_is
      case n3 => k_is
      case n4 => k_is
      case n5 => k_is
      case n6 => k_is
      case n7 => k_is
      case n8 => k_is
      case n9 => k_is
      case n10 => k_is
      case n11 => k_is
      case n12 => k_is
      case n13 => k_is
      case n14 => k_is
      case ty0 => k_is
      case ty1 => k_is
      case ty2 => k_is
      case ty3 => k_is
      case ty4 => k_is
      case ty5 => k_is
      case ty6 => k_is
      case ty7 => k_is
      case ty8 => k_is
      case ty9 => k_is
      case ty10 => k_is
      case ty11 => k_is
      case ty12 => k_is
      case ty13 => k_is
      case ty14 => k_is
      case ty15 => k_is
      case ty16 => k_is
      case tyB => k_is
      case sB0 => k_is
      case neB0 => rfl
      case sB1 => k_is
      case neB1 => rfl
      case sB2 => k_is
      case neB2 => rfl
      case sB3 => k_is
      case neB3 => rfl
      case sB4 => k_is
      case neB4 => rfl
      case sB5 => k_is
      case neB5 => rfl
      case sB6 => k_is
      case neB6 => rfl
      case sB7 => k_is
      case neB7 => rfl
      case sB8 => k_is
      case neB8 => rfl
      case sB9 => k_is
      case neB9 => rfl
      case sB10 => k_is
      case neB10 => rfl
      case sB11 => k_is
      case neB11 => rfl
      case sB12 => k_is
      case neB12 => rfl
      case sB13 => k_is
      case neB13 => rfl
      case sB14 => k_is
      case neB14 => rfl
      case sB15 => k_is
      case neB15 => rfl
      case sB16 => k_is
      case neB16 => rfl
      case sV0 => k_is
      case sV1 => k_is
      case sV2 => k_is
      case sV3 => k_is
      case sV4 => k_is
      case sV5 => k_is
      case sV6 => k_is
      case sV7 => k_is
      case sV8 => k_is
      case sV9 => k_is
      case sV10 => k_is
      case sV11 => k_is
      case sV12 => k_is
      case sV13 => k_is
      case sV14 => k_is
      case sV15 => k_is
      case sV16 => k_is
      case sVB => k_is
      case e0 => rfl
      case s0_1 => k_is
      case ne0_1 => rfl
      case s0_2 => k_is
      case ne0_2 => rfl
      case s0_3 => k_is
      case ne0_3 => rfl
      case s0_4 => k_is
      case ne0_4 => rfl
      case s0_5 => k_is
      case ne0_5 => rfl
      case s0_6 => k_is
      case ne0_6 => rfl
      case s0_7 => k_is
      case ne0_7 => rfl
      case s0_8 => k_is
      case ne0_8 => rfl
      case s0_9 => k_is
      case ne0_9 => rfl
      case s0_10 => k_is
      case ne0_10 => rfl
      case s0_11 => k_is
      case ne0_11 => rfl
      case s0_12 => k_is
      case ne0_12 => rfl
      case s0_13 => k_is
      case ne0_13 => rfl
      case s0_14 => k_is
      case ne0_14 => rfl
      case s0_15 => k_is
      case ne0_15 => rfl
      case s0_16 => k_is
      case ne0_16 => rfl
      case e1 => rfl
      case s1_0 => k_is
      case ne1_0 => rfl
      case s1_2 => k_is
      case ne1_2 => rfl
      case s1_3 => k_is
      case ne1_3 => rfl
      case s1_4 => k_is
      case ne1_4 => rfl
      case s1_5 => k_is
      case ne1_5 => rfl
      case s1_6 => k_is
      case ne1_6 => rfl
      case s1_7 => k_is
      case ne1_7 => rfl
      case s1_8 => k_is
      case ne1_8 => rfl
      case s1_9 => k_is
      case ne1_9 => rfl
      case s1_10 => k_is
      case ne1_10 => rfl
      case s1_11 => k_is
      case ne1_11 => rfl
      case s1_12 => k_is
      case ne1_12 => rfl
      case s1_13 => k_is
      case ne1_13 => rfl
      case s1_14 => k_is
      case ne1_14 => rfl
      case s1_15 => k_is
      case ne1_15 => rfl
      case s1_16 => k_is
      case ne1_16 => rfl
      case e2 => rfl
      case s2_0 => k_is
      case ne2_0 => rfl
      case s2_1 => k_is
      case ne2_1 => rfl
      case s2_3 => k_is
      case ne2_3 => rfl
      case s2_4 => k_is
      case ne2_4 => rfl
      case s2_5 => k_is
      case ne2_5 => rfl
      case s2_6 => k_is
      case ne2_6 => rfl
      case s2_7 => k_is
      case ne2_7 => rfl
      case s2_8 => k_is
      case ne2_8 => rfl
      case s2_9 => k_is
      case ne2_9 => rfl
      case s2_10 => k_is
      case ne2_10 => rfl
      case s2_11 => k_is
      case ne2_11 => rfl
      case s2_12 => k_is
      case ne2_12 => rfl
      case s2_13 => k_is
      case ne2_13 => rfl
      case s2_14 => k_is
      case ne2_14 => rfl
      case s2_15 => k_is
      case ne2_15 => rfl
      case s2_16 => k_is
      case ne2_16 => rfl
      case e3 => rfl
      case s3_0 => k_is
      case ne3_0 => rfl
      case s3_1 => k_is
      case ne3_1 => rfl
      case s3_2 => k_is
      case ne3_2 => rfl
      case s3_4 => k_is
      case ne3_4 => rfl
      case s3_5 => k_is
      case ne3_5 => rfl
      case s3_6 => k_is
      case ne3_6 => rfl
      case s3_7 => k_is
      case ne3_7 => rfl
      case s3_8 => k_is
      case ne3_8 => rfl
      case s3_9 => k_is
      case ne3_9 => rfl
      case s3_10 => k_is
      case ne3_10 => rfl
      case s3_11 => k_is
      case ne3_11 => rfl
      case s3_12 => k_is
      case ne3_12 => rfl
      case s3_13 => k_is
      case ne3_13 => rfl
      case s3_14 => k_is
      case ne3_14 => rfl
      case s3_15 => k_is
      case ne3_15 => rfl
      case s3_16 => k_is
      case ne3_16 => rfl
      case e4 => rfl
      case s4_0 => k_is
      case ne4_0 => rfl
      case s4_1 => k_is
      case ne4_1 => rfl
      case s4_2 => k_is
      case ne4_2 => rfl
      case s4_3 => k_is
      case ne4_3 => rfl
      case s4_5 => k_is
      case ne4_5 => rfl
      case s4_6 => k_is
      case ne4_6 => rfl
      case s4_7 => k_is
      case ne4_7 => rfl
      case s4_8 => k_is
      case ne4_8 => rfl
      case s4_9 => k_is
      case ne4_9 => rfl
      case s4_10 => k_is
      case ne4_10 => rfl
      case s4_11 => k_is
      case ne4_11 => rfl
      case s4_12 => k_is
      case ne4_12 => rfl
      case s4_13 => k_is
      case ne4_13 => rfl
      case s4_14 => k_is
      case ne4_14 => rfl
      case s4_15 => k_is
      case ne4_15 => rfl
      case s4_16 => k_is
      case ne4_16 => rfl
      case e5 => rfl
      case s5_0 => k_is
      case ne5_0 => rfl
      case s5_1 => k_is
      case ne5_1 => rfl
      case s5_2 => k_is
      case ne5_2 => rfl
      case s5_3 => k_is
      case ne5_3 => rfl
      case s5_4 => k_is
      case ne5_4 => rfl
      case s5_6 => k_is
      case ne5_6 => rfl
      case s5_7 => k_is
      case ne5_7 => rfl
      case s5_8 => k_is
      case ne5_8 => rfl
      case s5_9 => k_is
      case ne5_9 => rfl
      case s5_10 => k_is
      case ne5_10 => rfl
      case s5_11 => k_is
      case ne5_11 => rfl
      case s5_12 => k_is
      case ne5_12 => rfl
      case s5_13 => k_is
      case ne5_13 => rfl
      case s5_14 => k_is
      case ne5_14 => rfl
      case s5_15 => k_is
      case ne5_15 => rfl
      case s5_16 => k_is
      case ne5_16 => rfl
      case e6 => rfl
      case s6_0 => k_is
      case ne6_0 => rfl
      case s6_1 => k_is
      case ne6_1 => rfl
      case s6_2 => k_is
      case ne6_2 => rfl
      case s6_3 => k_is
      case ne6_3 => rfl
      case s6_4 => k_is
      case ne6_4 => rfl
      case s6_5 => k_is
      case ne6_5 => rfl
      case s6_7 => k_is
      case ne6_7 => rfl
      case s6_8 => k_is
      case ne6_8 => rfl
      case s6_9 => k_is
      case ne6_9 => rfl
      case s6_10 => k_is
      case ne6_10 => rfl
      case s6_11 => k_is
      case ne6_11 => rfl
      case s6_12 => k_is
      case ne6_12 => rfl
      case s6_13 => k_is
      case ne6_13 => rfl
      case s6_14 => k_is
      case ne6_14 => rfl
      case s6_15 => k_is
      case ne6_15 => rfl
      case s6_16 => k_is
      case ne6_16 => rfl
      case e7 => rfl
      case s7_0 => k_is
      case ne7_0 => rfl
      case s7_1 => k_is
      case ne7_1 => rfl
      case s7_2 => k_is
      case ne7_2 => rfl
      case s7_3 => k_is
      case ne7_3 => rfl
      case s7_4 => k_is
      case ne7_4 => rfl
      case s7_5 => k_is
      case ne7_5 => rfl
      case s7_6 => k_is
      case ne7_6 => rfl
      case s7_8 => k_is
      case ne7_8 => rfl
      case s7_9 => k_is
      case ne7_9 => rfl
      case s7_10 => k_is
      case ne7_10 => rfl
      case s7_11 => k_is
      case ne7_11 => rfl
      case s7_12 => k_is
      case ne7_12 => rfl
      case s7_13 => k_is
      case ne7_13 => rfl
      case s7_14 => k_is
      case ne7_14 => rfl
      case s7_15 => k_is
      case ne7_15 => rfl
      case s7_16 => k_is
      case ne7_16 => rfl
      case e8 => rfl
      case s8_0 => k_is
      case ne8_0 => rfl
      case s8_1 => k_is
      case ne8_1 => rfl
      case s8_2 => k_is
      case ne8_2 => rfl
      case s8_3 => k_is
      case ne8_3 => rfl
      case s8_4 => k_is
      case ne8_4 => rfl
      case s8_5 => k_is
      case ne8_5 => rfl
      case s8_6 => k_is
      case ne8_6 => rfl
      case s8_7 => k_is
      case ne8_7 => rfl
      case s8_9 => k_is
      case ne8_9 => rfl
      case s8_10 => k_is
      case ne8_10 => rfl
      case s8_11 => k_is
      case ne8_11 => rfl
      case s8_12 => k_is
      case ne8_12 => rfl
      case s8_13 => k_is
      case ne8_13 => rfl
      case s8_14 => k_is
      case ne8_14 => rfl
      case s8_15 => k_is
      case ne8_15 => rfl
      case s8_16 => k_is
      case ne8_16 => rfl
      case e9 => rfl
      case s9_0 => k_is
      case ne9_0 => rfl
      case s9_1 => k_is
      case ne9_1 => rfl
      case s9_2 => k_is
      case ne9_2 => rfl
      case s9_3 => k_is
      case ne9_3 => rfl
      case s9_4 => k_is
      case ne9_4 => rfl
      case s9_5 => k_is
      case ne9_5 => rfl
      case s9_6 => k_is
      case ne9_6 => rfl
      case s9_7 => k_is
      case ne9_7 => rfl
      case s9_8 => k_is
      case ne9_8 => rfl
      case s9_10 => k_is
      case ne9_10 => rfl
      case s9_11 => k_is
      case ne9_11 => rfl
      case s9_12 => k_is
      case ne9_12 => rfl
      case s9_13 => k_is
      case ne9_13 => rfl
      case s9_14 => k_is
      case ne9_14 => rfl
      case s9_15 => k_is
      case ne9_15 => rfl
      case s9_16 => k_is
      case ne9_16 => rfl
      case e10 => rfl
      case s10_0 => k_is
      case ne10_0 => rfl
      case s10_1 => k_is
      case ne10_1 => rfl
      case s10_2 => k_is
      case ne10_2 => rfl
      case s10_3 => k_is
      case ne10_3 => rfl
      case s10_4 => k_is
      case ne10_4 => rfl
      case s10_5 => k_is
      case ne10_5 => rfl
      case s10_6 => k_is
      case ne10_6 => rfl
      case s10_7 => k_is
      case ne10_7 => rfl
      case s10_8 => k_is
      case ne10_8 => rfl
      case s10_9 => k_is
      case ne10_9 => rfl
      case s10_11 => k_is
      case ne10_11 => rfl
      case s10_12 => k_is
      case ne10_12 => rfl
      case s10_13 => k_is
      case ne10_13 => rfl
      case s10_14 => k_is
      case ne10_14 => rfl
      case s10_15 => k_is
      case ne10_15 => rfl
      case s10_16 => k_is
      case ne10_16 => rfl
      case e11 => rfl
      case s11_0 => k_is
      case ne11_0 => rfl
      case s11_1 => k_is
      case ne11_1 => rfl
      case s11_2 => k_is
      case ne11_2 => rfl
      case s11_3 => k_is
      case ne11_3 => rfl
      case s11_4 => k_is
      case ne11_4 => rfl
      case s11_5 => k_is
      case ne11_5 => rfl
      case s11_6 => k_is
      case ne11_6 => rfl
      case s11_7 => k_is
      case ne11_7 => rfl
      case s11_8 => k_is
      case ne11_8 => rfl
      case s11_9 => k_is
      case ne11_9 => rfl
      case s11_10 => k_is
      case ne11_10 => rfl
      case s11_12 => k_is
      case ne11_12 => rfl
      case s11_13 => k_is
      case ne11_13 => rfl
      case s11_14 => k_is
      case ne11_14 => rfl
      case s11_15 => k_is
      case ne11_15 => rfl
      case s11_16 => k_is
      case ne11_16 => rfl
      case e12 => rfl
      case s12_0 => k_is
      case ne12_0 => rfl
      case s12_1 => k_is
      case ne12_1 => rfl
      case s12_2 => k_is
      case ne12_2 => rfl
      case s12_3 => k_is
      case ne12_3 => rfl
      case s12_4 => k_is
      case ne12_4 => rfl
      case s12_5 => k_is
      case ne12_5 => rfl
      case s12_6 => k_is
      case ne12_6 => rfl
      case s12_7 => k_is
      case ne12_7 => rfl
      case s12_8 => k_is
      case ne12_8 => rfl
      case s12_9 => k_is
      case ne12_9 => rfl
      case s12_10 => k_is
      case ne12_10 => rfl
      case s12_11 => k_is
      case ne12_11 => rfl
      case s12_13 => k_is
      case ne12_13 => rfl
      case s12_14 => k_is
      case ne12_14 => rfl
      case s12_15 => k_is
      case ne12_15 => rfl
      case s12_16 => k_is
      case ne12_16 => rfl
      case e13 => rfl
      case s13_0 => k_is
      case ne13_0 => rfl
      case s13_1 => k_is
      case ne13_1 => rfl
      case s13_2 => k_is
      case ne13_2 => rfl
      case s13_3 => k_is
      case ne13_3 => rfl
      case s13_4 => k_is
      case ne13_4 => rfl
      case s13_5 => k_is
      case ne13_5 => rfl
      case s13_6 => k_is
      case ne13_6 => rfl
      case s13_7 => k_is
      case ne13_7 => rfl
      case s13_8 => k_is
      case ne13_8 => rfl
      case s13_9 => k_is
      case ne13_9 => rfl
      case s13_10 => k_is
      case ne13_10 => rfl
      case s13_11 => k_is
      case ne13_11 => rfl
      case s13_12 => k_is
      case ne13_12 => rfl
      case s13_14 => k_is
      case ne13_14 => rfl
      case s13_15 => k_is
      case ne13_15 => rfl
      case s13_16 => k_is
      case ne13_16 => rfl
      case e14 => rfl
      case s14_0 => k_is
      case ne14_0 => rfl
      case s14_1 => k_is
      case ne14_1 => rfl
      case s14_2 => k_is
      case ne14_2 => rfl
      case s14_3 => k_is
      case ne14_3 => rfl
      case s14_4 => k_is
      case ne14_4 => rfl
      case s14_5 => k_is
      case ne14_5 => rfl
      case s14_6 => k_is
      case ne14_6 => rfl
      case s14_7 => k_is
      case ne14_7 => rfl
      case s14_8 => k_is
      case ne14_8 => rfl
      case s14_9 => k_is
      case ne14_9 => rfl
      case s14_10 => k_is
      case ne14_10 => rfl
      case s14_11 => k_is
      case ne14_11 => rfl
      case s14_12 => k_is
      case ne14_12 => rfl
      case s14_13 => k_is
      case ne14_13 => rfl
      case s14_15 => k_is
      case ne14_15 => rfl
      case s14_16 => k_is
      case ne14_16 => rfl
      case e15 => rfl
      case s15_0 => k_is
      case ne15_0 => rfl
      case s15_1 => k_is
      case ne15_1 => rfl
      case s15_2 => k_is
      case ne15_2 => rfl
      case s15_3 => k_is
      case ne15_3 => rfl
      case s15_4 => k_is
      case ne15_4 => rfl
      case s15_5 => k_is
      case ne15_5 => rfl
      case s15_6 => k_is
      case ne15_6 => rfl
      case s15_7 => k_is
      case ne15_7 => rfl
      case s15_8 => k_is
      case ne15_8 => rfl
      case s15_9 => k_is
      case ne15_9 => rfl
      case s15_10 => k_is
      case ne15_10 => rfl
      case s15_11 => k_is
      case ne15_11 => rfl
      case s15_12 => k_is
      case ne15_12 => rfl
      case s15_13 => k_is
      case ne15_13 => rfl
      case s15_14 => k_is
      case ne15_14 => rfl
      case s15_16 => k_is
      case ne15_16 => rfl
      case e16 => rfl
      case s16_0 => k_is
      case ne16_0 => rfl
      case s16_1 => k_is
      case ne16_1 => rfl
      case s16_2 => k_is
      case ne16_2 => rfl
      case s16_3 => k_is
      case ne16_3 => rfl
      case s16_4 => k_is
      case ne16_4 => rfl
      case s16_5 => k_is
      case ne16_5 => rfl
      case s16_6 => k_is
      case ne16_6 => rfl
      case s16_7 => k_is
      case ne16_7 => rfl
      case s16_8 => k_is
      case ne16_8 => rfl
      case s16_9 => k_is
      case ne16_9 => rfl
      case s16_10 => k_is
      case ne16_10 => rfl
      case s16_11 => k_is
      case ne16_11 => rfl
      case s16_12 => k_is
      case ne16_12 => rfl
      case s16_13 => k_is
      case ne16_13 => rfl
      case s16_14 => k_is
      case ne16_14 => rfl
      case s16_15 => k_is
      case ne16_15 => rfl
