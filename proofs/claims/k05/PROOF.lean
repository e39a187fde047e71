import PyProof.Rows.All
import Wide.All
import OpenK.AllK
import Wide.FinOn
import HandS.ForMost
import HandS.ForExc
import HandS.IsInst
import HandS.CallLocal
import HandS.Wide
import HandS.WideBits
import HandS.Flow
import HandS.EndBits
import HandS.WrittenGet
import PyProof.ReprRoads
import HandS.More
import HandS.Walk
import PyProof.Rows.RegFStrParts
import KE.KSuper
import KE.KExcSuper
import HandS.ExcInit
import HandS.ExcIs
import HandS.ExcField
import KE.KExcIs
import HandS.WordsExc
import HandS.ExcValue
import KE.KExcPX
import PyProof.StrOps2
import HandS.DictComp
import KE.RegKSuper
import PySem.Challenge.RW_cellbills_k05_whole_constructors_reached
set_option Elab.async false
set_option linter.all false
set_option maxRecDepth 100000
set_option maxHeartbeats 4000000
/-! What the layer lacks: defs that may ask for a text of a list (they want to know that no such asking is under way), // by any number that is not 0, great powers, calls by keywords alone, repr of data. -/
namespace Cb
open PySem PySem.Spec PyProof.Rows L2

/-! ### numbers -/
def DivAny (_ j : Int) : Prop := j ≠ 0 ∧ j.natAbs.log2 < 9000
def PowAny (i j : Int) : Prop := 0 ≤ j ∧ (Builtin.Int.intBits i : Int) * j ≤ 2 ^ 27
section
variable {X : Cx}
theorem op_fdivA : OpR X (binaryOp .FloorDiv) (rI DivAny fun i j => .int (i.fdiv j)) :=
  opI fun _ _ _ _ _ _ _ hd q => floordiv_int hd.1 q (.inl (PyProof.noPylong_of_log2 hd.2))
theorem op_powA : OpR X (binaryOp .Pow) (rI PowAny fun i j => .int (i ^ j.toNat)) :=
  opI fun _ _ _ _ _ _ _ hd q => pow_int hd.1 hd.2 q
end

/-! ### a text of data -/
@[irreducible] def rRepr (K : PySem.W.Frag) (u : Nat) : List V → Hp → VK → Prop := fun vs H Q =>
  ∃ (v : V) (d : PyData), vs = [v] ∧ Dp K H v d ∧ d.showable = true ∧ d.hasDict = false ∧ u + (d.depth + 1) < cLine ∧ ((∃ i, d = .int i) ∨ d.shown.length ≤ sizeLine) ∧ Q (.str d.shown) H
section
variable {X : Cx}
theorem call_repr (hg : X.A.guards = some []) : CallR X (.builtin "repr") (rRepr X.K X.A.units) := by
  intro pins s σ H vs us Q I rel h
  unfold rRepr at h
  obtain ⟨v, d, rfl, hd, hs, hn, hu, hz, q⟩ := h
  obtain ⟨u, rfl, ru⟩ := vals1 rel
  obtain ⟨as, rd⟩ := Dp.reads I d v u hd ru
  cases hd with
  | non =>
    cases ru
    exact PySem.P.repr_of_none ⟨.str "None", H, I.tok _, ⟨_, rfl⟩, q⟩
  | bl b =>
    cases ru
    exact PySem.P.repr_of_bool ⟨.str (PyData.shown (.bool b)), H, I.tok _, ⟨_, rfl⟩, q⟩
  | int i =>
    obtain ⟨t, rfl⟩ := ru
    have hi : i.natAbs.log2 < 1920 := of_decide_eq_true hs
    exact PySem.P.repr_of_int hi ⟨.str (PyData.shown (.int i)), H, I.tok _, ⟨_, rfl⟩, q⟩
  | str x =>
    obtain ⟨t, rfl⟩ := ru
    exact PySem.P.repr_of_str ⟨.str (PyData.shown (.str x)), H, I.tok _, ⟨_, rfl⟩, q⟩ (hz.resolve_left fun ⟨_, z⟩ => nomatch z)
  | lst e1 e2 =>
    cases ru
    exact repr_of_reads' rd hs (PyData.noDict_hsm hn) hg hu (fun _ _ z => z) (fun h' w tk hk => ⟨.str (PyData.shown _), H, I.kept hk, ⟨_, rfl⟩, q⟩) (hz.resolve_left fun ⟨_, z⟩ => nomatch z)
  | tup e1 e2 =>
    cases ru
    exact repr_of_reads' rd hs (PyData.noDict_hsm hn) hg hu (fun _ _ z => z) (fun h' w tk hk => ⟨.str (PyData.shown _), H, I.kept hk, ⟨_, rfl⟩, q⟩) (hz.resolve_left fun ⟨_, z⟩ => nomatch z)
end

/-! ### defs that want to know what is under way -/
structure FnG (P : Program) (w : World) (K : PySem.W.Frag) (mg : Str → Option Value) (base : Heap) (c : CXT) (k : Nat) (f : Addr) (fd : FuncData) (ps : List Str) (sp : Sp) : Prop where
  long : ∀ vs H Q E, sp vs H Q E → vs.length = ps.length
  goes : ∀ A : Around, A.guards = some [] → Room k A → ∀ (around : List Env) (s : Shared) (H : Hp) (given : Args) (us : List Value) (vs : List V) (Q : VK) (E : XK),
    Env0 P w K mg base A around s H → BindsTo s fd given (ps.zip us) → Vals vs us → sp vs H Q E →
    codeAny (model P w) A (.call (.ref f) given) (CR c around P w H s Q E) s
theorem FnG.up {P : Program} {w : World} {K : PySem.W.Frag} {mg : Str → Option Value} {base : Heap} {c : CXT} {j k : Nat} {f : Addr} {fd : FuncData} {ps : List Str} {sp : Sp}
    (G : FnG P w K mg base c j f fd ps sp) (le : j ≤ k) : FnG P w K mg base c k f fd ps sp :=
  { long := G.long, goes := fun A ga room => G.goes A ga (room.mono le) }
section
variable {X : Cx} {c : CXT} {k : Nat} {f : Addr} {fd : FuncData} {ps : List Str} {sp : Sp} {dvs : List V} {ds : List Value} {E : XK} {x : Str} {p pos : Pos} {e : Expr} {es : List Expr} {t : TA}
theorem runs_g {pins : List (Addr × Obj)} {σ : L2.St} {H : Hp} {s : Shared} {Q : VK} {us : List Value} {vs : List V} (G : FnG X.prog X.w X.K X.mg X.base c k f fd ps sp) (ga : X.A.guards = some []) (room : Room k X.A)
    (bd : Binds X.K fd ps ds) (hd : Vals dvs ds) (out : Passes c X E) (I : Inv X pins σ H s) (rel : Vals vs us) (pr : sp (vs ++ dvs) H Q E) :
    wpAny (model X.prog X.w) X.A (call (.ref f) us) (EP X pins σ Q) X.xe s := by
  have all := rel.append hd
  have many : (us ++ ds).length = ps.length := all.length ▸ G.long _ _ _ _ pr
  refine wpAny_call (codeAny_mono (G.goes X.A ga room X.stack s H ⟨us, []⟩ _ _ Q E I.env0 (bd s us I.kIn many) all pr) ?_)
  intro res s2 got
  match res, got with
  | .error err, got => exact out pins σ H s err s2 I got
  | .ok (.ret u), got => exact I.after got
theorem pe_callG (G : FnG X.prog X.w X.K X.mg X.base c k f fd ps sp) (ga : X.A.guards = some []) (room : Room k X.A) (gl : Gl X x) (mm : X.mg x = some (.ref f)) (kk : PySem.W.keepIn X.K (.ref f) = true)
    (bd : Binds X.K fd ps ds) (hd : Vals dvs ds) (out : Passes c X E) (ha : PA X (e :: es) t) (nd : (x == ("__debug__" : Str)) = false := by decide)
    (se : starEach (e :: es) X.env = (false, eval e X.env) :: starEach es X.env := by rfl) (pl : (backTo pos (starEach es X.env)).any (·.1) = false := by rfl) :
    PE X (.Call (.Name x p) (e :: es) [] pos) (tCall sp dvs E t) := by
  constructor
  intro pins s σ H Q I pr
  refine wpAny_Call_Name_kw (ld_glob I gl mm (PySem.W.callWith_K (h₀ := X.base) I.ok.mod.kin kk ?_ se pl) nd)
  refine thn (ha.run pos pins s σ H _ I pr) ?_
  rintro us s1 ⟨vs, H1, J, rel, pr1⟩
  exact ⟨J.kIn, runs_g G ga room bd hd out J rel pr1⟩
end
/-! f(k = v, ..) -/
section
variable {X : Cx} {c : CXT} {k : Nat} {f : Addr} {fd : FuncData} {ps ks : List Str} {sp : Sp} {E : XK} {x : Str} {p pos : Pos} {kws : List Keyword} {tk : TA} {g : List Value → List Value → List Value} {gV : List V → List V → List V}
theorem pe_callK0 (F : FnOk X.prog X.w X.K X.mg X.base c k f fd ps sp) (room : Room k X.A) (gl : Gl X x) (mm : X.mg x = some (.ref f)) (kk : PySem.W.keepIn X.K (.ref f) = true) (kb : KBinds X.K fd ps ks g gV) (out : Passes c X E) (hk : PK X kws tk)
    (named : (backToKw pos (keywordEach kws X.env)).all (·.1.isSome) = true := by rfl) (names : (backToKw pos (keywordEach kws X.env)).filterMap (·.1) = ks := by rfl) (nd : (x == ("__debug__" : Str)) = false := by decide)
    (pl : ((backTo pos (starEach [] X.env)).any (·.1) || (backToKw pos (keywordEach kws X.env)).any (·.1.isNone)) = false := by rfl) :
    PE X (.Call (.Name x p) [] kws pos) (tCallK sp gV E tNil tk) := by
  constructor
  intro pins s σ H Q I pr
  refine wpAny_Call_Name_kw (ld_glob I gl mm (PySem.W.callWith_KW0 (h₀ := X.base) I.ok.mod.kin kk named ?_ pl) nd)
  refine thn (hk.run pos pins s σ H _ I pr) ?_
  rintro ws s1 ⟨zs, H1, J, rel, pr1⟩
  refine ⟨J.kIn, ?_⟩
  rw [names]
  exact run_fnk (us := []) (vs := []) F room kb out J .nil rel pr1
end
/-- a def of the text that wants to know it -/
theorem fun_g {P : Program} {w : World} {K : PySem.W.Frag} {mg : Str → Option Value} {base : Heap} {c : CXT} {x qual : Str} {st : Stmt} {f : Addr} {fd : FuncData} {N ps : List Str} {k : Nat} {sp : Sp}
    (F : Fun K x qual st f fd) (S : FnScope N ps (defScope st)) (long : ∀ vs H Q E, sp vs H Q E → vs.length = ps.length)
    (body : ∀ (cdv : Value) (A : Around) (around : List Env) (s : Shared) (H : Hp) (vs : List V) (Q : VK) (E : XK), A.guards = some [] → Room k (A.deeper (envOfC qual (defScope st) s.heap.objs.size f cdv)) → sp vs H Q E →
      ∃ t, PSs (cxOf c P w K mg base N qual (defScope st) f cdv A around s H E) (defBody st) t ∧ t { nx := fun _ H' => Q .non H', rt := Q } (start N vs) H) :
    FnG P w K mg base c (k + 1) f fd ps sp := by
  obtain ⟨oc, od, kV, doc, pm, an, cdv, ct, osl, rfl, lk, hcd⟩ := F.ex
  refine ⟨long, ?_⟩
  intro A ga room around s H given us vs Q E z0 bd rel pr
  have KX : K.In s.heap := z0.mod.kin.keeps fun b o q => (z0.bs b o q).1
  have lim : s.heap.NoLimit := z0.mod.nolimit.keeps fun b o q => (z0.bs b o q).1
  have where_ : ∀ y ∈ ps.zip us, (defScope st).names.lookup y.1 = some .local ∨ ((defScope st).names.lookup y.1 = some .cell ∧ ((cellsFrom (s.heap.objs.size + 1) (defScope st).names []).lookup y.1).isSome = true) := by
    rintro ⟨n, v⟩ hy
    exact (S.par n (List.of_mem_zip hy).1).imp_right fun q => ⟨q, PySem.W.cellsFrom_some _ _ _ (.inl q)⟩
  refine codeAny_call_function room.depth (KX _ _ lk) rfl S.co S.gen rfl (PySem.W.codeRec_of KX hcd) (bd _ _ _ _ (wpAny_newFunctionEnv_cells S.kind where_ ?_))
  rintro env rfl s1 fresh
  refine ⟨lim.keeps fresh.toInCall.keep, codeAny_func ?_⟩
  obtain ⟨t, ht, hq⟩ := body cdv A around s H vs Q E ga (room.deeper _) pr
  have J : Inv (cxOf c P w K mg base N qual (defScope st) f cdv A around s H E) [] (start N vs) H s1 := inv_start S room.hd z0 (long _ _ _ _ pr) rel fresh
  refine wpAny_mono (ht.run [] s1 (start N vs) H _ J hq) ?_ (fun _ _ z => z)
  intro fl s2 got
  match fl, got with
  | .ret u, ⟨v, σ2, H2, L, rv, q⟩ => exact ⟨v, H2, L.os, L.bare, L.base, L.hok, rv, q⟩
  | .next, ⟨σ2, H2, L, q⟩ => exact ⟨V.non, H2, L.os, L.bare, L.base, L.hok, rfl, q⟩
  | .brk, ⟨_, _, _, q⟩ => exact q.elim
  | .cont, ⟨_, _, _, q⟩ => exact q.elim
end Cb
set_option Elab.async false
set_option linter.all false
set_option maxRecDepth 100000
set_option maxHeartbeats 4000000
namespace Cb
open PySem PySem.Spec PyProof.Rows L2
section
variable {P : Program} {w : World} {K : PySem.W.Frag} {mg mb : Str → Option Value} {k : Nat} {fa a : Addr} {fd : FuncData} {x : Str} {sp : Sp} {s : Shared} {vs : List Value} {ns : List Int}
/-- the law's def, called with the script, from an abstract heap that knows at most the script -/
theorem enters (H : Hp) (ob : Obj) (eo : ob = { cls := .type "list", data := .seq vs.toArray }) (H1 : ∀ b u, H b = some u → b = a ∧ u = .frz ob (.lst (ns.map V.int)) ∧ K.lookup a = none) (hS : SqL K H a (ns.map V.int)) (hok : HOk P w H s.heap)
    (KX : K.In s.heap) (g1 : s.heap.Ns mainGlobals mg) (g2 : s.heap.Ns builtinsNs mb) (g3 : ∀ x : Str, x ≠ "__name__" → mb x = bootBuiltins x) (g4 : s.heap.NoLimit) (g5 : s.gens = #[])
    (at_ : s.heap.get? a = some ob) (room : Room k callerA)
    (G : ∀ base : Heap, K.In base → base.Ns mainGlobals mg → FnG P w K mg base CX0 k fa fd [x] sp) (bd : ∀ (s : Shared) (u : Value), BindsTo s fd ⟨[u], []⟩ [(x, u)])
    (pr : sp [.ref a] H (fun v _ => v = .bl true) fun _ _ _ => False) :
    codeAny (model P w) callerA (.call (.ref fa) ⟨[.ref a], []⟩) (fun r s' => r = .ok (.ret (.bool true)) ∧ OldK s.heap s'.heap ∧ s'.os = s.os ∧ AllBare s'.gens) s := by
  have off : ∀ {b : Addr} {o : Obj}, s.heap.get? b = some o → o ≠ ob → H b = none := by
    intro b o e ne
    cases z : H b with
    | none => rfl
    | some u =>
      obtain ⟨rfl, _, _⟩ := H1 b u z
      exact absurd (Option.some.inj (e.symm.trans at_)) ne
  have offD : ∀ {b : Addr} {o : Obj} {es : Array DictEntry} {ep : Nat}, s.heap.get? b = some o → o.data = .dict es ep → H b = none := fun {b o es ep} e d => off e (by
    rintro rfl
    rw [eo] at d
    cases d)
  have hid : ∀ {b : Addr} {m : Str → Option Value}, s.heap.Ns b m → (hidT s.heap H).Ns b m := by
    rintro b m ⟨o, es, ep, e, d, r⟩
    exact ⟨o, es, ep, hidT_get e (offD e d), d, r⟩
  have KB : K.In (hidT s.heap H) := by
    intro b o e
    refine hidT_get (KX b o e) ?_
    cases z : H b with
    | none => rfl
    | some u =>
      obtain ⟨rfl, _, no⟩ := H1 b u z
      rw [no] at e
      cases e
  obtain ⟨mc, l1, l2⟩ := g4
  have z0 : Env0 P w K mg (hidT s.heap H) callerA [] s H :=
    { frames := rfl, mod := ⟨KB, hid g1, ⟨mb, hid g2, g3⟩, ⟨mc, hid l1, l2⟩⟩, bs := fun b o e => of_hidT e, bsz := Nat.le_of_eq (hidT_size _ _), funs := trivial
      frf := fun b hb => absurd (show b ∈ ([] : List Addr) from hb) List.not_mem_nil, hok := hok, bare := .of_eq g5 }
  refine codeAny_mono ((G _ KB (hid g1)).goes callerA rfl room [] s H ⟨[.ref a], []⟩ [.ref a] [.ref a] _ _ z0 (bd s (.ref a)) (.cons rfl .nil) pr) ?_
  intro res s2 got
  match res, got with
  | .ok (.ret u), got =>
    obtain ⟨v, H', os, bare, un, hok', rv, ev⟩ := got
    obtain rfl : v = V.bl true := ev
    obtain rfl : u = Value.bool true := rv
    refine ⟨rfl, OldK.of_keep ?_, os, bare⟩
    intro b o e
    cases z : H b with
    | none => exact un.keep b o e z (fun q => absurd (show b ∈ ([] : List Addr) from q) List.not_mem_nil) (by simp)
    | some u =>
      obtain ⟨rfl, rfl, _⟩ := H1 b u z
      have z2 := un.frzs b ob _ z
      obtain ⟨q1, _⟩ := hok b _ z
      obtain ⟨q2, _⟩ := hok' b _ z2
      exact (Option.some.inj (e.symm.trans q1)) ▸ q2
theorem enter (hobj : s.heap.get? a = some { cls := .type "list", data := .seq vs.toArray }) (hi : IntsAre vs ns) (hl : ns.length ≤ sizeLine)
    (KX : K.In s.heap) (g1 : s.heap.Ns mainGlobals mg) (g2 : s.heap.Ns builtinsNs mb) (g3 : ∀ x : Str, x ≠ "__name__" → mb x = bootBuiltins x) (g4 : s.heap.NoLimit) (g5 : s.gens = #[]) (room : Room k callerA)
    (G : ∀ base : Heap, K.In base → base.Ns mainGlobals mg → FnG P w K mg base CX0 k fa fd [x] sp) (bd : ∀ (s : Shared) (u : Value), BindsTo s fd ⟨[u], []⟩ [(x, u)])
    (pr : ∀ H : Hp, SqL K H a (ns.map V.int) → sp [.ref a] H (fun v _ => v = .bl true) fun _ _ _ => False) :
    codeAny (model P w) callerA (.call (.ref fa) ⟨[.ref a], []⟩) (fun r s' => r = .ok (.ret (.bool true)) ∧ OldK s.heap s'.heap ∧ s'.os = s.os ∧ AllBare s'.gens) s := by
  have rel := vals_ints hi
  cases hk : K.lookup a with
  | some o =>
    have same := Option.some.inj ((KX a o hk).symm.trans hobj)
    have hS : SqL K (fun _ => none) a (ns.map V.int) := .inr ⟨o, vs.toArray, _, hk, by rw [same], by rw [same], by rw [same], by rw [List.size_toArray, hi.length]; exact hl, rel⟩
    exact enters (fun _ => none) _ rfl (fun b u z => nomatch (show (none : Option HO) = some u from z)) hS (fun b u z => nomatch (show (none : Option HO) = some u from z)) KX g1 g2 g3 g4 g5 hobj room G bd (pr _ hS)
  | none =>
    let ob : Obj := { cls := .type "list", data := .seq vs.toArray }
    let H : Hp := fun b => if b = a then some (.frz ob (.lst (ns.map V.int))) else none
    have H1 : ∀ b u, H b = some u → b = a ∧ u = .frz ob (.lst (ns.map V.int)) ∧ K.lookup a = none := by
      intro b u z
      by_cases q : b = a
      · exact ⟨q, (Option.some.inj ((if_pos q).symm.trans z)).symm, hk⟩
      · exact nomatch ((if_neg q).symm.trans z : (none : Option HO) = some u)
    have hS : SqL K H a (ns.map V.int) := .inl (.inr ⟨ob, if_pos rfl⟩)
    refine enters H ob rfl H1 hS ?_ KX g1 g2 g3 g4 g5 hobj room G bd (pr _ hS)
    intro b u z
    obtain ⟨rfl, rfl, _⟩ := H1 b u z
    exact ⟨hobj, by rw [List.length_map]; exact hl, vs, _, rel, hobj⟩
end
/-- the goal that k_head leaves, for a law's def that wants to know what is under way; the script's ints with their bits -/
theorem walk_g {l : PySem.W.OpenLaw} {n k : Nat} {q : Program} {loose : List Str} {XP : (Str → Option Value) → Heap → Prop} {YP : World → Heap → Prop} {d : DefRec} {K : Params → PySem.W.Frag} {sp : PySem.W.Frag → Sp} {x : Str}
    (hn : l.most = some n) (small : n ≤ sizeLine) (plain : d.params.defaults = []) (room : Room k callerA) (hK : ∀ (w : World) (h : Heap), YP w h → (K w.params).In h)
    (G : ∀ (w : World) (mg : Str → Option Value) (fa : Addr) (h : Heap), (K w.params).In h → h.Ns mainGlobals mg → mg d.name = some (.ref fa) →
      ∃ fd : FuncData, (∀ (s : Shared) (u : Value), BindsTo s fd ⟨[u], []⟩ [(x, u)]) ∧ ∀ base : Heap, (K w.params).In base → base.Ns mainGlobals mg → FnG l.prog w (K w.params) mg base CX0 k fa fd [x] (sp (K w.params)))
    (pr : ∀ (K : PySem.W.Frag) (H : Hp) (a : Addr) (ns : List Int), ns.length ≤ n → (∀ i ∈ ns, Builtin.Int.intBits i ≤ 1048576) → SqL K H a (ns.map V.int) → sp K [.ref a] H (fun v _ => v = .bl true) fun _ _ _ => False) :
    PySem.W.WalkO q loose XP YP l.row.toRowW d [] (fun f vs => PySem.call f vs) := by
  refine Att.attach_callB hn plain ?_
  intro w s0 s mg mb fa o pm cd doc a vs ns A Y _ _ _ hmg hobj hints hlen hbits hg
  have KX := hK w _ Y
  obtain ⟨fd, bd, GG⟩ := G w mg fa _ KX A.T.g hmg
  exact enter hobj hints (Nat.le_trans hlen small) KX A.T.g A.T.b A.T.builtins A.T.nolimit hg room GG bd fun H hS => pr _ H a ns hlen hbits hS
end Cb
set_option Elab.async false
set_option linter.all false
set_option maxRecDepth 100000
set_option maxHeartbeats 4000000
namespace Cb
open PySem PySem.Spec PyProof.Rows L2
/-- a def stands under its name -/
def Has (K : PySem.W.Frag) (mg : Str → Option Value) (x : Str) (st : Stmt) (ps : List Str) : Prop :=
  ∃ (f : Addr) (fd : FuncData), Fun K x x st f fd ∧ mg x = some (.ref f) ∧ Binds K fd ps []
/-- it keeps a promise -/
def Says (P : Program) (w : World) (K : PySem.W.Frag) (mg : Str → Option Value) (base : Heap) (k : Nat) (x : Str) (ps : List Str) (sp : Sp) : Prop :=
  ∃ (f : Addr) (fd : FuncData), FnOk P w K mg base CX0 k f fd ps sp ∧ mg x = some (.ref f) ∧ PySem.W.keepIn K (.ref f) = true ∧ Binds K fd ps []
def SaysG (P : Program) (w : World) (K : PySem.W.Frag) (mg : Str → Option Value) (base : Heap) (k : Nat) (x : Str) (ps : List Str) (sp : Sp) : Prop :=
  ∃ (f : Addr) (fd : FuncData), FnG P w K mg base CX0 k f fd ps sp ∧ mg x = some (.ref f) ∧ PySem.W.keepIn K (.ref f) = true ∧ Binds K fd ps []
/-- also by keywords alone, in an order of their own: g puts them in the parameters' order -/
def kOnly (g : {α : Type} → List α → List α) : {α : Type} → List α → List α → List α
  | _, [], ws => g ws
  | _, _ :: _, _ => []
def SaysK (P : Program) (w : World) (K : PySem.W.Frag) (mg : Str → Option Value) (base : Heap) (k : Nat) (x : Str) (ps ks : List Str) (g : {α : Type} → List α → List α) (sp : Sp) : Prop :=
  ∃ (f : Addr) (fd : FuncData), FnOk P w K mg base CX0 k f fd ps sp ∧ mg x = some (.ref f) ∧ PySem.W.keepIn K (.ref f) = true ∧ KBinds K fd ps ks (kOnly g) (kOnly g)
def HasK (K : PySem.W.Frag) (mg : Str → Option Value) (x : Str) (st : Stmt) (ps ks : List Str) (g : {α : Type} → List α → List α) : Prop :=
  ∃ (f : Addr) (fd : FuncData), Fun K x x st f fd ∧ mg x = some (.ref f) ∧ KBinds K fd ps ks (kOnly g) (kOnly g)
/-- a def's body keeps a promise -/
abbrev Body (P : Program) (w : World) (K : PySem.W.Frag) (mg : Str → Option Value) (base : Heap) (k : Nat) (x : Str) (st : Stmt) (N : List Str) (sp : Sp) : Prop :=
  ∀ (f : Addr) (cdv : Value) (A : Around) (outer : List Env) (s : Shared) (H : Hp) (vs : List V) (Q : VK) (E : XK), Room k (A.deeper (envOfC x (defScope st) s.heap.objs.size f cdv)) → sp vs H Q E →
      ∃ t, PSs (cxOf CX0 P w K mg base N x (defScope st) f cdv A outer s H E).nox (defBody st) t ∧ t { nx := fun _ H' => Q .non H', rt := Q } (start N vs) H
section
variable {P : Program} {w : World} {K : PySem.W.Frag} {mg : Str → Option Value} {base : Heap} {k : Nat} {x : Str} {st : Stmt} {N ps : List Str} {sp : Sp}
theorem has {f : Addr} {oc : Value} {od an : Option Addr} {osl : Array (Option Value)} {kV doc pm cdv ct : Value} {h : Heap} (X : K.In h) (G : h.Ns mainGlobals mg) (a : PySem.W.nsIn K mainGlobals x = some (some (.ref f)))
    (l : K.lookup f = some ⟨oc, od, .func (PySem.W.fnOf x x (defArgs st) (defBody st) (defScope st) .none kV doc pm an cdv ct), osl⟩) (c : PySem.W.codeIn K cdv x = true) (kp : PySem.W.keepIn K (.ref f) = true)
    (b : ∀ (kV doc pm : Value) (an : Option Addr) (cdv ct : Value) (us : List Value), us.length = ps.length → bindArgs (PySem.W.fnOf x x (defArgs st) (defBody st) (defScope st) .none kV doc pm an cdv ct) ⟨us, []⟩ = pure (ps.zip us)) :
    Has K mg x st ps := ⟨f, _, fun_mk l c kp, PySem.W.mg_of X G a, (fun_mk l c kp).binds b⟩
theorem says (h : Has K mg x st ps) (S : FnScope N ps (defScope st)) (len : ∀ vs H Q E, sp vs H Q E → vs.length = ps.length)
    (body : ∀ (f : Addr) (cdv : Value) (A : Around) (outer : List Env) (s : Shared) (H : Hp) (vs : List V) (Q : VK) (E : XK), Room k (A.deeper (envOfC x (defScope st) s.heap.objs.size f cdv)) → sp vs H Q E →
      ∃ t, PSs (cxOf CX0 P w K mg base N x (defScope st) f cdv A outer s H E).nox (defBody st) t ∧ t { nx := fun _ H' => Q .non H', rt := Q } (start N vs) H) : Says P w K mg base (k + 1) x ps sp := by
  obtain ⟨f, fd, F, hm, b⟩ := h
  exact ⟨f, fd, F.ok S len fun cdv A outer s H vs Q E => body f cdv A outer s H vs Q E, hm, F.kp, b⟩
theorem saysK {ks : List Str} {g : {α : Type} → List α → List α} (h : HasK K mg x st ps ks g) (S : FnScope N ps (defScope st)) (len : ∀ vs H Q E, sp vs H Q E → vs.length = ps.length) (body : Body P w K mg base k x st N sp) : SaysK P w K mg base (k + 1) x ps ks g sp := by
  obtain ⟨f, fd, F, hm, b⟩ := h
  exact ⟨f, fd, F.ok S len fun cdv A outer s H vs Q E => body f cdv A outer s H vs Q E, hm, F.kp, b⟩
/-- one, and two turned about -/
theorem kb1 {fd : FuncData} {p : Str} (h : ∀ v : Value, bindArgs fd ⟨[], [(p, v)]⟩ = pure [(p, v)]) : KBinds K fd [p] [p] (kOnly fun l => l) (kOnly fun l => l) where
  to := fun s us ws _ hl => match us, ws, hl with
    | [], [v], _ => .of_eq (h v)
  rel := fun {vs us zs ws} r1 r2 => by
    cases r1 with
    | nil => exact r2
    | cons _ _ => exact .nil
theorem vals_rev {vs : List V} {us : List Value} (r : Vals vs us) : Vals vs.reverse us.reverse := by
  induction r with
  | nil => exact .nil
  | cons h _ ih =>
    rw [List.reverse_cons, List.reverse_cons]
    exact ih.append (.cons h .nil)
theorem kb2 {fd : FuncData} {p q : Str} (h : ∀ u v : Value, bindArgs fd ⟨[], [(q, u), (p, v)]⟩ = pure [(p, v), (q, u)]) : KBinds K fd [p, q] [q, p] (kOnly List.reverse) (kOnly List.reverse) where
  to := fun s us ws _ hl => match us, ws, hl with
    | [], [u, v], _ => .of_eq (h u v)
    | [], [], hl => nomatch hl
    | [], [_], hl => nomatch hl
    | [], _ :: _ :: _ :: _, hl => by
      have z : (List.reverse (_ :: _ :: _ :: _) : List Value).length = 2 := hl
      rw [List.length_reverse] at z
      simp at z
  rel := fun {vs us zs ws} r1 r2 => by
    cases r1 with
    | nil => exact vals_rev r2
    | cons _ _ => exact .nil
theorem hasK {ks : List Str} {gk : {α : Type} → List α → List α} {f : Addr} {oc : Value} {od an : Option Addr} {osl : Array (Option Value)} {kV doc pm cdv ct : Value} {h : Heap} (X : K.In h) (G : h.Ns mainGlobals mg) (a : PySem.W.nsIn K mainGlobals x = some (some (.ref f)))
    (l : K.lookup f = some ⟨oc, od, .func (PySem.W.fnOf x x (defArgs st) (defBody st) (defScope st) .none kV doc pm an cdv ct), osl⟩) (c : PySem.W.codeIn K cdv x = true) (kp : PySem.W.keepIn K (.ref f) = true)
    (b : KBinds K (PySem.W.fnOf x x (defArgs st) (defBody st) (defScope st) .none kV doc pm an cdv ct) ps ks (kOnly gk) (kOnly gk)) :
    HasK K mg x st ps ks gk := ⟨f, _, fun_mk l c kp, PySem.W.mg_of X G a, b⟩
theorem saysG (h : Has K mg x st ps) (S : FnScope N ps (defScope st)) (len : ∀ vs H Q E, sp vs H Q E → vs.length = ps.length)
    (body : ∀ (f : Addr) (cdv : Value) (A : Around) (outer : List Env) (s : Shared) (H : Hp) (vs : List V) (Q : VK) (E : XK), A.guards = some [] → Room k (A.deeper (envOfC x (defScope st) s.heap.objs.size f cdv)) → sp vs H Q E →
      ∃ t, PSs (cxOf CX0 P w K mg base N x (defScope st) f cdv A outer s H E).nox (defBody st) t ∧ t { nx := fun _ H' => Q .non H', rt := Q } (start N vs) H) : SaysG P w K mg base (k + 1) x ps sp := by
  obtain ⟨f, fd, F, hm, b⟩ := h
  exact ⟨f, fd, fun_g F S len fun cdv A outer s H vs Q E ga hr h => (body f cdv A outer s H vs Q E ga hr h).imp fun _ z => ⟨z.1.nox, z.2⟩, hm, F.kp, b⟩
theorem fnG {f : Addr} {fd : FuncData} (F : Fun K x x st f fd) (S : FnScope N ps (defScope st)) (len : ∀ vs H Q E, sp vs H Q E → vs.length = ps.length)
    (body : ∀ (f : Addr) (cdv : Value) (A : Around) (outer : List Env) (s : Shared) (H : Hp) (vs : List V) (Q : VK) (E : XK), A.guards = some [] → Room k (A.deeper (envOfC x (defScope st) s.heap.objs.size f cdv)) → sp vs H Q E →
      ∃ t, PSs (cxOf CX0 P w K mg base N x (defScope st) f cdv A outer s H E).nox (defBody st) t ∧ t { nx := fun _ H' => Q .non H', rt := Q } (start N vs) H) : FnG P w K mg base CX0 (k + 1) f fd ps sp :=
  fun_g F S len fun cdv A outer s H vs Q E ga hr h => (body f cdv A outer s H vs Q E ga hr h).imp fun _ z => ⟨z.1.nox, z.2⟩
theorem Says.imp {sp' : Sp} (c : Says P w K mg base k x ps sp) (h : ∀ vs H Q E, sp' vs H Q E → sp vs H Q E) : Says P w K mg base k x ps sp' := by
  obtain ⟨f, fd, F, hm, kp, b⟩ := c
  exact ⟨f, fd, F.imp h, hm, kp, b⟩
end
section
variable {X : Cx} {k j : Nat} {x : Str} {ps ks : List Str} {sp : Sp} {p pos : Pos} {e : Expr} {es : List Expr} {t tk : TA} {kws : List Keyword} {g : {α : Type} → List α → List α}
theorem pe_s (c : Says X.prog X.w X.K X.mg X.base k x ps sp) (hr : Room j X.A) (ha : PA X (e :: es) t) (le : k ≤ j := by decide) (gl : Gl X x := by rfl) (nd : (x == ("__debug__" : Str)) = false := by decide)
    (se : starEach (e :: es) X.env = (false, eval e X.env) :: starEach es X.env := by rfl) (pl : (backTo pos (starEach es X.env)).any (·.1) = false := by rfl) : PE X (.Call (.Name x p) (e :: es) [] pos) (tCall sp [] E0 t) := by
  obtain ⟨f, fd, F, hm, kp, b⟩ := c
  exact pe_call F (hr.mono le) gl hm kp b .nil pass0 ha nd se pl
theorem pe_g (c : SaysG X.prog X.w X.K X.mg X.base k x ps sp) (ga : X.A.guards = some []) (hr : Room j X.A) (ha : PA X (e :: es) t) (le : k ≤ j := by decide) (gl : Gl X x := by rfl) (nd : (x == ("__debug__" : Str)) = false := by decide)
    (se : starEach (e :: es) X.env = (false, eval e X.env) :: starEach es X.env := by rfl) (pl : (backTo pos (starEach es X.env)).any (·.1) = false := by rfl) : PE X (.Call (.Name x p) (e :: es) [] pos) (tCall sp [] E0 t) := by
  obtain ⟨f, fd, F, hm, kp, b⟩ := c
  exact pe_callG F ga (hr.mono le) gl hm kp b .nil pass0 ha nd se pl
theorem pe_k0 (c : SaysK X.prog X.w X.K X.mg X.base k x ps ks g sp) (hr : Room j X.A) (hk : PK X kws tk) (le : k ≤ j := by decide) (gl : Gl X x := by rfl)
    (named : (backToKw pos (keywordEach kws X.env)).all (·.1.isSome) = true := by rfl) (names : (backToKw pos (keywordEach kws X.env)).filterMap (·.1) = ks := by rfl) (nd : (x == ("__debug__" : Str)) = false := by decide)
    (pl : ((backTo pos (starEach [] X.env)).any (·.1) || (backToKw pos (keywordEach kws X.env)).any (·.1.isNone)) = false := by rfl) : PE X (.Call (.Name x p) [] kws pos) (tCallK sp (kOnly g) E0 tNil tk) := by
  obtain ⟨f, fd, F, hm, kp, b⟩ := c
  exact pe_callK0 F (hr.mono le) gl hm kp b pass0 hk named names nd pl
end
/-! ### heaps -/
theorem upd_self {H : Hp} {a : Addr} {o : HO} (h : H a = some o) : upd H a o = H := by
  funext b
  by_cases q : b = a
  · rw [q, upd_same, h]
  · rw [upd_ne q]
theorem same_new {H : Hp} {p : Addr} {o : HO} (h : H p = none) : Same H (upd H p o) := fun b u e => by
  rw [upd_ne (ne_of_none e h)]
  exact e
end Cb
set_option Elab.async false
set_option linter.all false
set_option maxRecDepth 100000
set_option maxHeartbeats 4000000
/-! Data that the calls themselves have made: what stands at an address is a list, a tuple or an empty dict of such. -/
namespace Cb
open PySem PySem.Spec PyProof.Rows L2
mutual
inductive DT (H : Hp) : V → PyData → Prop
  | non : DT H .non .none
  | bl (b : Bool) : DT H (.bl b) (.bool b)
  | int (i : Int) : DT H (.int i) (.int i)
  | str (z : Str) : DT H (.str z) (.str z)
  | lst {a : Addr} {xs : List V} {ds : List PyData} : H a = some (.lst xs) → DTs H xs ds → DT H (.ref a) (.list ds)
  | tup {a : Addr} {xs : List V} {ds : List PyData} : H a = some (.tup xs) → DTs H xs ds → DT H (.ref a) (.tuple ds)
  | dct {a : Addr} : H a = some (.dK []) → DT H (.ref a) (.dict [])
inductive DTs (H : Hp) : List V → List PyData → Prop
  | nil : DTs H [] []
  | cons {v : V} {vs : List V} {d : PyData} {ds : List PyData} : DT H v d → DTs H vs ds → DTs H (v :: vs) (d :: ds)
end
mutual
theorem DT.same {H H' : Hp} (s : Same H H') : ∀ (d : PyData) {v : V}, DT H v d → DT H' v d
  | .none, _, h => by cases h; exact .non
  | .bool _, _, h => by cases h; exact .bl _
  | .int _, _, h => by cases h; exact .int _
  | .str _, _, h => by cases h; exact .str _
  | .list ds, _, h => by
    cases h with
    | lst e r => exact .lst (s _ _ e) (DTs.same s ds r)
  | .tuple ds, _, h => by
    cases h with
    | tup e r => exact .tup (s _ _ e) (DTs.same s ds r)
  | .dict _, _, h => by
    cases h with
    | dct e => exact .dct (s _ _ e)
theorem DTs.same {H H' : Hp} (s : Same H H') : ∀ (ds : List PyData) {vs : List V}, DTs H vs ds → DTs H' vs ds
  | [], _, h => by cases h; exact .nil
  | d :: ds, _, h => by
    cases h with
    | cons a r => exact .cons (DT.same s d a) (DTs.same s ds r)
end
theorem DTs.length {H : Hp} : ∀ {ds : List PyData} {vs : List V}, DTs H vs ds → vs.length = ds.length
  | [], _, h => by cases h; rfl
  | d :: ds, _, h => by
    cases h with
    | cons a r =>
      rw [List.length_cons, List.length_cons, DTs.length r]
theorem DTs.get {H : Hp} : ∀ {ds : List PyData} {vs : List V} {j : Nat} {v : V} {d : PyData}, DTs H vs ds → vs[j]? = some v → ds[j]? = some d → DT H v d
  | [], _, j, v, d, h, e, f => by simp at f
  | d0 :: ds, _, 0, v, d, h, e, f => by
    cases h with
    | cons a r =>
      simp at e f
      rw [← e, ← f]
      exact a
  | d0 :: ds, _, j + 1, v, d, h, e, f => by
    cases h with
    | cons a r =>
      simp at e f
      exact r.get e f
/-! ### types -/
def tyN : PyData → String
  | .none => "NoneType"
  | .bool _ => "bool"
  | .int _ => "int"
  | .str _ => "str"
  | .list _ => "list"
  | .tuple _ => "tuple"
  | .dict _ => "dict"
def isS : PyData → Bool
  | .str _ => true
  | _ => false
def isL : PyData → Bool
  | .list _ => true
  | _ => false
def isTu : PyData → Bool
  | .tuple _ => true
  | _ => false
theorem DT.ty {K : PySem.W.Frag} {H : Hp} {v : V} : ∀ {d : PyData}, DT H v d → TyX K H v (.type (tyN d))
  | .none, h => by cases h; exact .base .non
  | .bool _, h => by cases h; exact .base (.bl _)
  | .int _, h => by cases h; exact .base (.int _)
  | .str _, h => by cases h; exact .base (.str _)
  | .list _, h => by
    cases h with
    | lst e _ => exact .base (.lst e)
  | .tuple _, h => by
    cases h with
    | tup e _ => exact .base (.tup e)
  | .dict _, h => by
    cases h with
    | dct e => exact .base (.dK e)
theorem kit_s : ∀ d : PyData, kitB (tyN d) "str" = some (isS d)
  | .none => by show kitB "NoneType" "str" = some false; decide +kernel
  | .bool _ => by show kitB "bool" "str" = some false; decide +kernel
  | .int _ => by show kitB "int" "str" = some false; decide +kernel
  | .str _ => by show kitB "str" "str" = some true; decide +kernel
  | .list _ => by show kitB "list" "str" = some false; decide +kernel
  | .tuple _ => by show kitB "tuple" "str" = some false; decide +kernel
  | .dict _ => by show kitB "dict" "str" = some false; decide +kernel
theorem kit_l : ∀ d : PyData, kitB (tyN d) "list" = some (isL d)
  | .none => by show kitB "NoneType" "list" = some false; decide +kernel
  | .bool _ => by show kitB "bool" "list" = some false; decide +kernel
  | .int _ => by show kitB "int" "list" = some false; decide +kernel
  | .str _ => by show kitB "str" "list" = some false; decide +kernel
  | .list _ => by show kitB "list" "list" = some true; decide +kernel
  | .tuple _ => by show kitB "tuple" "list" = some false; decide +kernel
  | .dict _ => by show kitB "dict" "list" = some false; decide +kernel
theorem kit_t : ∀ d : PyData, kitB (tyN d) "tuple" = some (isTu d)
  | .none => by show kitB "NoneType" "tuple" = some false; decide +kernel
  | .bool _ => by show kitB "bool" "tuple" = some false; decide +kernel
  | .int _ => by show kitB "int" "tuple" = some false; decide +kernel
  | .str _ => by show kitB "str" "tuple" = some false; decide +kernel
  | .list _ => by show kitB "list" "tuple" = some false; decide +kernel
  | .tuple _ => by show kitB "tuple" "tuple" = some true; decide +kernel
  | .dict _ => by show kitB "dict" "tuple" = some false; decide +kernel
/-- what a call of isinstance asks of data -/
theorem isi_s {K : PySem.W.Frag} {H : Hp} {v : V} {d : PyData} {Q : VK} (h : DT H v d) (q : Q (.bl (isS d)) H) : rIsi K [v, .ty "str"] H Q := ⟨_, _, _, _, _, rfl, .ty _, h.ty, kit_ty (kit_s d), q⟩
theorem isi_l {K : PySem.W.Frag} {H : Hp} {v : V} {d : PyData} {Q : VK} (h : DT H v d) (q : Q (.bl (isL d)) H) : rIsi K [v, .ty "list"] H Q := ⟨_, _, _, _, _, rfl, .ty _, h.ty, kit_ty (kit_l d), q⟩
theorem isi_t {K : PySem.W.Frag} {H : Hp} {v : V} {d : PyData} {Q : VK} (h : DT H v d) (q : Q (.bl (isTu d)) H) : rIsi K [v, .ty "tuple"] H Q := ⟨_, _, _, _, _, rfl, .ty _, h.ty, kit_ty (kit_t d), q⟩
/-! ### for the reckoning by ==: without dicts -/
mutual
def plain : PyData → Bool
  | .dict _ => false
  | .list ds => plains ds
  | .tuple ds => plains ds
  | _ => true
def plains : List PyData → Bool
  | [] => true
  | d :: ds => plain d && plains ds
end
mutual
theorem DT.dp {K : PySem.W.Frag} {H : Hp} : ∀ {d : PyData} {v : V}, plain d = true → DT H v d → Dp K H v d
  | .none, _, _, h => by cases h; exact .non
  | .bool _, _, _, h => by cases h; exact .bl _
  | .int _, _, _, h => by cases h; exact .int _
  | .str _, _, _, h => by cases h; exact .str _
  | .list ds, _, p, h => by
    cases h with
    | lst e r => exact .lst (SqL.of e) (DTs.dp (ds := ds) (by simpa [plain] using p) r)
  | .tuple ds, _, p, h => by
    cases h with
    | tup e r => exact .tup (SqT.of e) (DTs.dp (ds := ds) (by simpa [plain] using p) r)
  | .dict _, _, p, _ => by simp [plain] at p
theorem DTs.dp {K : PySem.W.Frag} {H : Hp} : ∀ {ds : List PyData} {vs : List V}, plains ds = true → DTs H vs ds → DpAll K H vs ds
  | [], _, _, h => by cases h; exact .nil
  | d :: ds, _, p, h => by
    cases h with
    | cons a r =>
      have p2 : plain d = true ∧ plains ds = true := by simpa [plains] using p
      exact .cons (DT.dp (d := d) p2.1 a) (DTs.dp (ds := ds) p2.2 r)
end
/-! ### lists made one by one, over any walk -/
theorem lc_mapW {J : It} {n : Nat} {G : Hp → Prop} {Y : Nat → Hp → V → Hp → Prop} {i : Nat} {te : TE} {σ : L2.St} {H1 : Hp} {D : Addr} {Qd : Hp → Prop} {ys : List V} (w : Walk J n G Y) (g0 : ∀ H, Same H1 H → G H) (y0 : ∀ j H x H', Y j H x H' → H' = H) (hD : H1 D = none) (len : ys.length = n) (small : n < 1000)
    (hs : ∀ (j : Nat) (x y : V) (H' : Hp) (Q : VK), Same H1 H' → Y j H' x H' → ys[j]? = some y → (∀ H'', Same H' H'' → Q y H'') → te ((wipe σ [i]).set i (some x)) H' Q)
    (hd : ∀ H', Same H1 H' → H' D = some (.lst ys) → Qd H') :
    ∃ W : Nat → Nat → Hp → Prop, (∃ m, W 0 m (upd H1 D (.lst []))) ∧ ∀ k m H, W k m H →
      (J.stop k H ∧ Qd H) ∨ (J.go k H ∧ ∃ Nx : Hp → Prop, (∀ H', Nx H' → ∃ m', m' < m ∧ W (k + 1) m' H') ∧ ∀ x H', J.yld k H x H' → gName i x (wipe σ [i]) H' fun σ2 H2 => wipe σ2 [i] = wipe σ [i] ∧ tYes σ2 H2 fun b H3 =>
        if b = true then te σ2 H3 fun y H4 => ∃ acc, H4 D = some (.lst acc) ∧ acc.length < sizeLine ∧ Nx (upd H4 D (.lst (acc ++ [y]))) else Nx H3) := by
  refine lc_it w (fun j H' => Same H1 H' ∧ H' D = some (.lst (ys.take j))) ⟨same_new hD, upd_same⟩ (fun j H' _ z => g0 H' z.1) ?_ ?_
  · rintro j x H H' hj ⟨s1, hd1⟩ y
    obtain rfl := y0 _ _ _ _ y
    have hy : ys[j]? = some ys[j] := List.getElem?_eq_getElem (by omega)
    refine ⟨?_, ?_⟩
    · show ((wipe σ [i]).set i (some x)).set i none = wipe σ [i]
      show ((σ.set i none).set i (some x)).set i none = σ.set i none
      rw [List.set_set, List.set_set]
    · show te ((wipe σ [i]).set i (some x)) H' _
      refine hs j x _ H' _ s1 y hy ?_
      intro H'' s2
      have e2 := s2 _ _ hd1
      refine ⟨_, e2, ?_, ?_, ?_⟩
      · rw [List.length_take]
        exact Nat.lt_of_le_of_lt (Nat.min_le_right _ _) (by rw [len]; exact small1000 (by omega))
      · intro b o e
        rw [upd_ne (ne_of_none e hD)]
        exact s2 _ _ (s1 _ _ e)
      · rw [upd_same, List.take_add_one, hy]
        rfl
  · rintro H' ⟨s1, hd1⟩
    rw [List.take_of_length_le (by omega)] at hd1
    exact hd H' s1 hd1
end Cb
set_option Elab.async false
set_option linter.all false
set_option maxRecDepth 100000
set_option maxHeartbeats 4000000
namespace Cb
open PySem PySem.Spec PyProof.Rows L2
/-! ### data that can be laid out and compared -/
mutual
def good : PyData → Bool
  | .none => true
  | .bool _ => true
  | .int _ => true
  | .str z => PyData.strOk z && decide (z.length ≤ 1000)
  | .list ds => decide (ds.length < 1000) && goods ds
  | .tuple ds => decide (ds.length < 1000) && goods ds
  | .dict _ => false
def goods : List PyData → Bool
  | [] => true
  | d :: ds => good d && goods ds
end
theorem goods_mem : ∀ {ds : List PyData} {d : PyData}, goods ds = true → d ∈ ds → good d = true
  | [], _, _, h => by cases h
  | e :: ds, d, g, h => by
    have g2 : good e = true ∧ goods ds = true := by simpa [goods] using g
    rcases List.mem_cons.mp h with rfl | h
    · exact g2.1
    · exact goods_mem g2.2 h
mutual
theorem good_can : ∀ d : PyData, good d = true → d.canLay0 = true
  | .none, _ => by simp [PyData.canLay0]
  | .bool _, _ => by simp [PyData.canLay0]
  | .int _, _ => by simp [PyData.canLay0]
  | .str z, h => by
    have h2 : PyData.strOk z = true ∧ z.length ≤ 1000 := by simpa [good] using h
    simpa [PyData.canLay0] using h2.1
  | .list ds, h => by
    have h2 : ds.length < 1000 ∧ goods ds = true := by simpa [good] using h
    simpa [PyData.canLay0] using goods_can ds h2.2
  | .tuple ds, h => by
    have h2 : ds.length < 1000 ∧ goods ds = true := by simpa [good] using h
    simpa [PyData.canLay0] using goods_can ds h2.2
  | .dict _, h => by simp [good] at h
theorem goods_can : ∀ ds : List PyData, goods ds = true → PyData.canLayAll0 ds = true
  | [], _ => by simp [PyData.canLayAll0]
  | d :: ds, h => by
    have g2 : good d = true ∧ goods ds = true := by simpa [goods] using h
    simp [PyData.canLayAll0, good_can d g2.1, goods_can ds g2.2]
end
mutual
theorem good_plain : ∀ d : PyData, good d = true → plain d = true
  | .none, _ => by simp [plain]
  | .bool _, _ => by simp [plain]
  | .int _, _ => by simp [plain]
  | .str z, h => by simp [plain]
  | .list ds, h => by
    have h2 : ds.length < 1000 ∧ goods ds = true := by simpa [good] using h
    simpa [plain] using goods_plain ds h2.2
  | .tuple ds, h => by
    have h2 : ds.length < 1000 ∧ goods ds = true := by simpa [good] using h
    simpa [plain] using goods_plain ds h2.2
  | .dict _, h => by simp [good] at h
theorem goods_plain : ∀ ds : List PyData, goods ds = true → plains ds = true
  | [], _ => by simp [plains]
  | d :: ds, h => by
    have g2 : good d = true ∧ goods ds = true := by simpa [goods] using h
    simp [plains, good_plain d g2.1, goods_plain ds g2.2]
end
/-- good, and not too deep -/
structure OKd (d : PyData) : Prop where
  good : good d = true
  dep : d.depth ≤ 60
theorem OKd.shaped {d : PyData} (h : OKd d) : SeqAt.shaped d = true := by
  unfold SeqAt.shaped
  rw [good_can d h.good, Bool.true_and]
  exact decide_eq_true (Nat.le_trans h.dep (by decide))
theorem OKd.mem_l {d : PyData} {ds : List PyData} (h : OKd (.list ds)) (m : d ∈ ds) : OKd d := by
  have g := h.good
  have g2 : ds.length < 1000 ∧ goods ds = true := by simpa [Cb.good] using g
  refine ⟨goods_mem g2.2 m, ?_⟩
  have := PyData.depth_le_depthAll ds d m
  have h2 := h.dep
  simp only [PyData.depth] at h2
  omega
theorem OKd.mem_t {d : PyData} {ds : List PyData} (h : OKd (.tuple ds)) (m : d ∈ ds) : OKd d := by
  have g := h.good
  have g2 : ds.length < 1000 ∧ goods ds = true := by simpa [Cb.good] using g
  refine ⟨goods_mem g2.2 m, ?_⟩
  have := PyData.depth_le_depthAll ds d m
  have h2 := h.dep
  simp only [PyData.depth] at h2
  omega
theorem OKd.len_l {ds : List PyData} (h : OKd (.list ds)) : ds.length < 1000 := by
  have g := h.good
  have g2 : ds.length < 1000 ∧ goods ds = true := by simpa [Cb.good] using g
  exact g2.1
theorem OKd.len_t {ds : List PyData} (h : OKd (.tuple ds)) : ds.length < 1000 := by
  have g := h.good
  have g2 : ds.length < 1000 ∧ goods ds = true := by simpa [Cb.good] using g
  exact g2.1
theorem OKd.len_s {z : Str} (h : OKd (.str z)) : z.length ≤ 1000 := by
  have g := h.good
  have g2 : PyData.strOk z = true ∧ z.length ≤ 1000 := by simpa [Cb.good] using g
  exact g2.2
theorem okd_str {z : Str} (h : PyData.strOk z = true) (l : z.length ≤ 1000) : OKd (.str z) := by
  refine ⟨?_, ?_⟩
  · simp [Cb.good, h, l]
  · simp [PyData.depth]
/-! ### == of an item and a text -/
theorem eqv_str (z y : Str) : PyData.eqv (.str z) (.str y) = decide (z = y) := by
  simp only [PyData.eqv]
  by_cases h : z = y <;> simp [h]
def isStr (y : Str) : PyData → Bool
  | .str z => decide (z = y)
  | _ => false
theorem eqv_isStr (y : Str) : ∀ d : PyData, PyData.eqv d (.str y) = isStr y d
  | .none => by simp [PyData.eqv, isStr]
  | .bool _ => by simp [PyData.eqv, isStr]
  | .int _ => by simp [PyData.eqv, isStr]
  | .str z => eqv_str z y
  | .list _ => by simp [PyData.eqv, isStr]
  | .tuple _ => by simp [PyData.eqv, isStr]
  | .dict _ => by simp [PyData.eqv, isStr]
/-! ### tests of what is known -/
theorem ifNot {p : Prop} [Decidable p] {A B : Prop} (hA : ¬ p → A) (hB : p → B) : if (!decide p) = true then A else B := by
  by_cases h : p
  · rw [decide_eq_true h]
    exact iteF (hB h)
  · rw [decide_eq_false h]
    exact iteT (hA h)
theorem ifB {b : Bool} {A B : Prop} (hA : b = true → A) (hB : b = false → B) : if b = true then A else B := by
  cases b with
  | true => exact iteT (hA rfl)
  | false => exact iteF (hB rfl)
theorem ifN {z y : Str} {A B : Prop} (h : ¬ z = y) (b : B) : if decide (V.str z = V.str y) = true then A else B := by
  rw [decide_eq_false (fun e => h (V.str.inj e))]
  exact iteF b
theorem ifY {z y : Str} {A B : Prop} (h : z = y) (a : A) : if decide (V.str z = V.str y) = true then A else B := by
  rw [decide_eq_true (congrArg V.str h)]
  exact iteT a
/-! ### signs of texts -/
def lowC (c : Nat) : Bool := decide (97 ≤ c) && decide (c ≤ 122)
def digC (c : Nat) : Bool := decide (48 ≤ c) && decide (c ≤ 57)
theorem lt1 (a c : Nat) : ([c] < [a]) ↔ c < a := by
  rw [List.cons_lt_cons_iff]
  simp
end Cb
set_option Elab.async false
set_option linter.all false
set_option maxRecDepth 100000
set_option maxHeartbeats 4000000
namespace Cb
open PySem PySem.Spec PyProof.Rows L2
/-! ### what is not looked at -/
def hid (S : List Addr) (H : Hp) : Hp := fun b => if b ∈ S then none else H b
def Keep (S : List Addr) (H H' : Hp) : Prop := ∀ b o, b ∉ S → H b = some o → H' b = some o
theorem hid_at {S : List Addr} {H : Hp} {b : Addr} {o : HO} (n : b ∉ S) (e : H b = some o) : hid S H b = some o := by
  unfold hid
  rw [if_neg n]
  exact e
theorem hid_out {S : List Addr} {H : Hp} {b : Addr} {o : HO} (e : hid S H b = some o) : b ∉ S ∧ H b = some o := by
  unfold hid at e
  split at e
  · cases e
  · exact ⟨by assumption, e⟩
theorem Keep.hid {S : List Addr} {H H' : Hp} (k : Keep S H H') : Same (hid S H) (hid S H') := fun b o e => by
  obtain ⟨n, e2⟩ := hid_out e
  exact hid_at n (k b o n e2)
theorem hid_same {S : List Addr} {H : Hp} : Same (hid S H) H := fun b o e => (hid_out e).2
theorem hid_mono {S S' : List Addr} {H : Hp} (h : ∀ b, b ∈ S → b ∈ S') : Same (hid S' H) (hid S H) := fun b o e => by
  obtain ⟨n, e2⟩ := hid_out e
  exact hid_at (fun z => n (h b z)) e2
theorem Same.keep {S : List Addr} {H H' : Hp} (s : Same H H') : Keep S H H' := fun b o _ e => s b o e
theorem Keep.trans {S : List Addr} {H H' H'' : Hp} (a : Keep S H H') (b : Keep S H' H'') : Keep S H H'' := fun c o n e => b c o n (a c o n e)
theorem Keep.refl {S : List Addr} {H : Hp} : Keep S H H := fun _ _ _ e => e
theorem Keep.mono {S S' : List Addr} {H H' : Hp} (k : Keep S H H') (h : ∀ b, b ∈ S → b ∈ S') : Keep S' H H' := fun b o n e => k b o (fun z => n (h b z)) e
/-- writing what is hidden -/
theorem keep_upd {S : List Addr} {H : Hp} {p : Addr} {o : HO} (h : p ∈ S) : Keep S H (upd H p o) := fun b u n e => by
  rw [upd_ne (show b ≠ p from fun z => n (by rw [z]; exact h))]
  exact e
theorem keep_new {S : List Addr} {H : Hp} {p : Addr} {o : HO} (h : H p = none) : Keep S H (upd H p o) := fun b u _ e => same_new h b u e
/-- what was new when S' was told may be hidden no more -/
theorem Keep.less {S S' : List Addr} {H H' : Hp} (k : Keep S' H H') (h : ∀ b, b ∈ S' → b ∉ S → H b = none) : Keep S H H' := fun b o n e => by
  by_cases z : b ∈ S'
  · rw [h b z n] at e
    cases e
  · exact k b o z e
/-! ### data of bounded size -/
def fit : List Nat → PyData → Bool
  | _, .none => true
  | _, .bool _ => true
  | _, .int i => decide (i = 0) || decide (i = 7)
  | _, .str z => PyData.strOk z && decide (z.length ≤ 40)
  | w :: ws, .list ds => decide (ds.length ≤ w) && ds.all (fit ws)
  | w :: ws, .tuple ds => decide (ds.length ≤ w) && ds.all (fit ws)
  | _, _ => false
def bulk : List Nat → Nat
  | [] => 40
  | w :: ws => 40 + w * (bulk ws + 1)
theorem bulk_40 : ∀ ws, 40 ≤ bulk ws
  | [] => Nat.le_refl _
  | w :: ws => by
    unfold bulk
    omega
theorem weightAll_le {n : Nat} : ∀ {ds : List PyData}, (∀ d ∈ ds, d.weight ≤ n) → PyData.weightAll ds ≤ ds.length * (n + 1)
  | [], _ => by simp [PyData.weightAll]
  | d :: ds, h => by
    have h1 := h d (List.mem_cons_self ..)
    have h2 := weightAll_le (ds := ds) fun e he => h e (List.mem_cons_of_mem _ he)
    simp only [PyData.weightAll, List.length_cons]
    rw [Nat.add_mul]
    omega
theorem canAll {ds : List PyData} (h : ∀ d ∈ ds, d.canLay0 = true) : PyData.canLayAll0 ds = true := by
  induction ds with
  | nil => simp [PyData.canLayAll0]
  | cons d ds ih => simp [PyData.canLayAll0, h d (List.mem_cons_self ..), ih fun e he => h e (List.mem_cons_of_mem _ he)]
theorem depthAll_le {n : Nat} {ds : List PyData} (h : ∀ d ∈ ds, d.depth ≤ n) : PyData.depthAll ds ≤ n := by
  induction ds with
  | nil => simp [PyData.depthAll]
  | cons d ds ih =>
    have h1 := h d (List.mem_cons_self ..)
    have h2 := ih fun e he => h e (List.mem_cons_of_mem _ he)
    simp only [PyData.depthAll]
    omega
/-- what fits is good, can be laid out, compared and shown -/
structure Fits (ws : List Nat) (d : PyData) : Prop where
  good : good d = true
  dep : d.depth ≤ ws.length
  wgt : d.weight ≤ bulk ws
  short : d.intsShort 13 = true
  shw : d.showable = true
  nod : d.hasDict = false
theorem goods_of : ∀ {ds : List PyData}, (∀ d ∈ ds, good d = true) → goods ds = true
  | [], _ => rfl
  | d :: ds, h => by
    simp only [goods, h d (List.mem_cons_self ..), goods_of (ds := ds) fun e he => h e (List.mem_cons_of_mem _ he), Bool.and_self]
theorem showAll_of : ∀ {ds : List PyData}, (∀ d ∈ ds, d.showable = true) → PyData.showableAll ds = true
  | [], _ => by simp [PyData.showableAll]
  | d :: ds, h => by
    simp only [PyData.showableAll, h d (List.mem_cons_self ..), showAll_of (ds := ds) fun e he => h e (List.mem_cons_of_mem _ he), Bool.and_self]
theorem shortAll_of : ∀ {ds : List PyData}, (∀ d ∈ ds, d.intsShort 13 = true) → PyData.intsShortAll 13 ds = true
  | [], _ => by simp [PyData.intsShortAll]
  | d :: ds, h => by
    simp only [PyData.intsShortAll, h d (List.mem_cons_self ..), shortAll_of (ds := ds) fun e he => h e (List.mem_cons_of_mem _ he), Bool.and_self]
theorem nodAll_of : ∀ {ds : List PyData}, (∀ d ∈ ds, d.hasDict = false) → PyData.hasDictAll ds = false
  | [], _ => by simp [PyData.hasDictAll]
  | d :: ds, h => by
    simp only [PyData.hasDictAll, h d (List.mem_cons_self ..), nodAll_of (ds := ds) fun e he => h e (List.mem_cons_of_mem _ he), Bool.or_self]
theorem log_100 {i : Int} (h : i.natAbs < 100) : i.natAbs.log2 < 1920 := Nat.lt_of_lt_of_le (PySem.Flt.log2_lt_of (by decide) (show i.natAbs < 2 ^ 7 by omega)) (by decide)
theorem fits_of : ∀ (ws : List Nat), (∀ w ∈ ws, w < 1000) → ∀ d : PyData, fit ws d = true → Fits ws d
  | ws, _, .none, _ => ⟨rfl, by simp [PyData.depth], by simp [PyData.weight], by simp [PyData.intsShort], by simp [PyData.showable], by simp [PyData.hasDict]⟩
  | ws, _, .bool _, _ => ⟨rfl, by simp [PyData.depth], by simp [PyData.weight], by simp [PyData.intsShort], by simp [PyData.showable], by simp [PyData.hasDict]⟩
  | ws, _, .int i, h => by
    have h2 : i = 0 ∨ i = 7 := by cases ws <;> simpa [fit] using h
    have h40 := bulk_40 ws
    rcases h2 with rfl | rfl
    · exact ⟨rfl, by simp [PyData.depth], by simp [PyData.weight], by decide +kernel, by decide +kernel, by simp [PyData.hasDict]⟩
    · exact ⟨rfl, by simp [PyData.depth], Nat.le_trans (by decide +kernel) h40, by decide +kernel, by decide +kernel, by simp [PyData.hasDict]⟩
  | ws, _, .str z, h => by
    have h2 : PyData.strOk z = true ∧ z.length ≤ 40 := by cases ws <;> simpa [fit] using h
    have h40 := bulk_40 ws
    refine ⟨?_, by simp [PyData.depth], ?_, by simp [PyData.intsShort], by simp [PyData.showable], by simp [PyData.hasDict]⟩
    · simp only [Cb.good, h2.1, Bool.true_and]
      exact decide_eq_true (Nat.le_trans h2.2 (by decide))
    · simp only [PyData.weight]
      exact Nat.le_trans h2.2 h40
  | [], _, .list _, h => by simp [fit] at h
  | [], _, .tuple _, h => by simp [fit] at h
  | [], _, .dict _, h => by simp [fit] at h
  | _ :: _, _, .dict _, h => by simp [fit] at h
  | w :: ws, hw, .list ds, h => by
    have h2 : ds.length ≤ w ∧ ds.all (fit ws) = true := by simpa only [fit, Bool.and_eq_true, decide_eq_true_eq] using h
    have all : ∀ d ∈ ds, Fits ws d := fun d hd => fits_of ws (fun x hx => hw x (List.mem_cons_of_mem _ hx)) d (List.all_eq_true.mp h2.2 d hd)
    have w1 := hw w (List.mem_cons_self ..)
    refine ⟨?_, ?_, ?_, ?_, ?_, ?_⟩
    · simp only [Cb.good, goods_of fun d hd => (all d hd).good, Bool.and_true]
      exact decide_eq_true (by omega)
    · have := depthAll_le fun d hd => (all d hd).dep
      simp only [PyData.depth, List.length_cons]
      omega
    · have h3 := weightAll_le fun d hd => (all d hd).wgt
      have h4 : ds.length * (bulk ws + 1) ≤ w * (bulk ws + 1) := Nat.mul_le_mul_right _ h2.1
      simp only [PyData.weight, bulk]
      omega
    · simp only [PyData.intsShort]
      exact shortAll_of fun d hd => (all d hd).short
    · simp only [PyData.showable]
      exact showAll_of fun d hd => (all d hd).shw
    · simp only [PyData.hasDict]
      exact nodAll_of fun d hd => (all d hd).nod
  | w :: ws, hw, .tuple ds, h => by
    have h2 : ds.length ≤ w ∧ ds.all (fit ws) = true := by simpa only [fit, Bool.and_eq_true, decide_eq_true_eq] using h
    have all : ∀ d ∈ ds, Fits ws d := fun d hd => fits_of ws (fun x hx => hw x (List.mem_cons_of_mem _ hx)) d (List.all_eq_true.mp h2.2 d hd)
    have w1 := hw w (List.mem_cons_self ..)
    refine ⟨?_, ?_, ?_, ?_, ?_, ?_⟩
    · simp only [Cb.good, goods_of fun d hd => (all d hd).good, Bool.and_true]
      exact decide_eq_true (by omega)
    · have := depthAll_le fun d hd => (all d hd).dep
      simp only [PyData.depth, List.length_cons]
      omega
    · have h3 := weightAll_le fun d hd => (all d hd).wgt
      have h4 : ds.length * (bulk ws + 1) ≤ w * (bulk ws + 1) := Nat.mul_le_mul_right _ h2.1
      simp only [PyData.weight, bulk]
      omega
    · simp only [PyData.intsShort]
      exact shortAll_of fun d hd => (all d hd).short
    · simp only [PyData.showable]
      exact showAll_of fun d hd => (all d hd).shw
    · simp only [PyData.hasDict]
      exact nodAll_of fun d hd => (all d hd).nod
theorem Fits.ok {ws : List Nat} {d : PyData} (f : Fits ws d) (l : ws.length ≤ 60) : OKd d := ⟨f.good, Nat.le_trans f.dep l⟩
theorem Fits.len {ws : List Nat} {d : PyData} (f : Fits ws d) (l : ws.length ≤ 60) (b : bulk ws ≤ 2 ^ 20) : d.shown.length ≤ sizeLine := by
  refine Nat.le_trans (PyProof.Rows.shown_le13 ?_ f.short) (by decide)
  simp only [PyData.layable0, good_can d f.good, Bool.true_and, Bool.and_eq_true, decide_eq_true_eq]
  exact ⟨Nat.le_trans f.dep (by omega), Nat.le_trans f.wgt b⟩
/-- its text, asked by call_repr -/
theorem r_fits {K : PySem.W.Frag} {u : Nat} {H : Hp} {Q : VK} {v : V} {d : PyData} {ws : List Nat} (h : DT H v d) (f : Fits ws d) (l : ws.length ≤ 60) (b : bulk ws ≤ 2 ^ 20) (hu : u + 200 < cLine) (q : Q (.str (PyData.shown d)) H) : rRepr K u [v] H Q := by
  unfold rRepr
  exact ⟨v, d, rfl, h.dp (good_plain d f.good), f.shw, f.nod, by have := f.dep; omega, .inr (f.len l b), q⟩
end Cb
set_option Elab.async false
set_option linter.all false
set_option maxRecDepth 100000
set_option maxHeartbeats 4000000
namespace Cb
open PySem PySem.Spec PyProof.Rows L2
/-! ### a shown text has right code points -/
def okc (z : Str) : Prop := ∀ c ∈ z.cps.toList, c < 0x110000
theorem okc_iff {z : Str} : PyData.strOk z = true ↔ okc z := by
  unfold PyData.strOk okc
  rw [Array.all_eq_true']
  simp
theorem okc_app {a b : Str} (ha : okc a) (hb : okc b) : okc (a ++ b) := by
  intro c hc
  have e : (a ++ b).cps = a.cps ++ b.cps := rfl
  rw [e, Array.toList_append] at hc
  rcases List.mem_append.mp hc with hc | hc
  · exact ha c hc
  · exact hb c hc
theorem char_ok (c : Char) : c.toNat < 0x110000 := by
  have := c.valid
  unfold UInt32.isValidChar Nat.isValidChar at this
  have e : c.toNat = c.val.toNat := rfl
  rw [e]
  rcases this with h | ⟨_, h⟩
  · omega
  · exact h
theorem okc_string (s : String) : okc (Str.ofString s) := by
  intro c hc
  rw [Str.ofString_eq_toList] at hc
  obtain ⟨ch, _, rfl⟩ := List.mem_map.mp (show c ∈ s.toList.map Char.toNat from hc)
  exact char_ok ch
theorem reprChar_ok {q c : Nat} (h : c < 0x110000) : ∀ x ∈ Builtin.Str.reprChar q c, x < 0x110000 := by
  intro x hx
  unfold Builtin.Str.reprChar at hx
  have hex : ∀ k x, x ∈ (List.replicate (k - ((Nat.toDigits 16 c).map Char.toNat).length) 48 ++ (Nat.toDigits 16 c).map Char.toNat) → x < 0x110000 := by
    intro k x hx
    rcases List.mem_append.mp hx with hx | hx
    · rw [(List.mem_replicate.mp hx).2]; decide
    · obtain ⟨ch, _, rfl⟩ := List.mem_map.mp hx
      exact char_ok ch
  simp only at hx
  split at hx
  · simp at hx; omega
  split at hx
  · simp at hx; omega
  split at hx
  · simp at hx; omega
  split at hx
  · simp at hx; omega
  split at hx
  · simp at hx; omega
  split at hx
  · rcases List.mem_append.mp hx with hx | hx
    · simp at hx; omega
    · exact hex _ _ hx
  split at hx
  · rcases List.mem_append.mp hx with hx | hx
    · simp at hx; omega
    · exact hex _ _ hx
  · rcases List.mem_append.mp hx with hx | hx
    · simp at hx; omega
    · exact hex _ _ hx
theorem okc_repr {x : Str} (h : okc x) : okc (reprText x) := by
  have q1 : reprQuote x < 0x110000 := by
    unfold reprQuote
    split <;> decide
  have key : ∀ (l : List Nat) (acc : Array Nat), (∀ c ∈ l, c < 0x110000) → (∀ c ∈ acc.toList, c < 0x110000) → ∀ c ∈ (l.foldl (fun out c => out ++ (Builtin.Str.reprChar (reprQuote x) c).toArray) acc).toList, c < 0x110000 := by
    intro l
    induction l with
    | nil => intro acc _ ha; exact ha
    | cons d l ih =>
      intro acc hl ha
      refine ih _ (fun c hc => hl c (List.mem_cons_of_mem _ hc)) ?_
      intro c hc
      rw [Array.toList_append] at hc
      rcases List.mem_append.mp hc with hc | hc
      · exact ha c hc
      · exact reprChar_ok (hl d (List.mem_cons_self ..)) c hc
  intro c hc
  unfold reprText at hc
  simp only [Array.toList_push, ← Array.foldl_toList] at hc
  rcases List.mem_append.mp hc with hc | hc
  · exact key _ _ h (fun c hc => by simp at hc; omega) c hc
  · simp at hc; omega
theorem okc_textFrom : ∀ (ts : List Str) (k : Nat) (acc : Str), okc acc → (∀ t ∈ ts, okc t) → okc (textFrom k acc ts)
  | [], _, _, h, _ => h
  | t :: ts, k, acc, h, ht => by
    refine okc_textFrom ts (k + 1) _ (okc_app (okc_app h ?_) (ht t (List.mem_cons_self ..))) fun u hu => ht u (List.mem_cons_of_mem _ hu)
    split
    · exact okc_string ", "
    · exact okc_string ""
theorem okc_join {sep : Str} (hs : okc sep) : ∀ (ts : List Str), (∀ t ∈ ts, okc t) → okc (Str.join sep ts)
  | [], _ => okc_string ""
  | [x], h => h x (by simp)
  | x :: y :: r, h => okc_app (okc_app (h x (by simp)) hs) (okc_join hs (y :: r) fun u hu => h u (List.mem_cons_of_mem _ hu))
mutual
theorem okc_shown : ∀ d : PyData, good d = true → okc (PyData.shown d)
  | .none, _ => by simp only [PyData.shown]; exact okc_string _
  | .bool b, _ => by
    simp only [PyData.shown]
    cases b
    · exact okc_string _
    · exact okc_string _
  | .int i, _ => by simp only [PyData.shown]; exact okc_string _
  | .str z, h => by
    have h2 : PyData.strOk z = true ∧ z.length ≤ 1000 := by simpa [good] using h
    simp only [PyData.shown]
    exact okc_repr (okc_iff.mp h2.1)
  | .list ds, h => by
    have h2 : ds.length < 1000 ∧ goods ds = true := by simpa [good] using h
    simp only [PyData.shown]
    exact okc_app (okc_textFrom _ _ _ (okc_string _) (okc_shownAll ds h2.2)) (okc_string _)
  | .tuple ds, h => by
    have h2 : ds.length < 1000 ∧ goods ds = true := by simpa [good] using h
    simp only [PyData.shown]
    unfold tupleText
    refine okc_app (okc_app (okc_string _) (okc_join (okc_string _) _ (okc_shownAll ds h2.2))) ?_
    exact okc_string _
  | .dict _, h => by simp [good] at h
theorem okc_shownAll : ∀ ds : List PyData, goods ds = true → ∀ t ∈ PyData.shownAll ds, okc t
  | [], _, t, ht => by simp [PyData.shownAll] at ht
  | d :: ds, h, t, ht => by
    have g2 : good d = true ∧ goods ds = true := by simpa [goods] using h
    simp only [PyData.shownAll, List.mem_cons] at ht
    rcases ht with rfl | ht
    · exact okc_shown d g2.1
    · exact okc_shownAll ds g2.2 t ht
end
theorem strOk_shown {d : PyData} (h : good d = true) : PyData.strOk (PyData.shown d) = true := okc_iff.mpr (okc_shown d h)
end Cb
set_option Elab.async false
set_option linter.all false
set_option maxRecDepth 100000
set_option maxHeartbeats 4000000
/-! Exceptions of a class of the program whose __init__ says super().__init__(), its base class being the program's own too. -/
namespace ExS
open PySem PySem.W PySem.Calls PyProof.Rows
/-- what does not change: the written part, the module's names, the built-in ones -/
structure Bs (K : Frag) (mg mb : Str → Option Value) (h : Heap) : Prop where
  kin : K.In h
  glob : h.Ns mainGlobals mg
  blt : h.Ns builtinsNs mb
  sup : mg "super" = none
  bsup : mb "super" = some (.type "super")
  nol : h.NoLimit
theorem Bs.keeps {K : Frag} {mg mb : Str → Option Value} {h h' : Heap} (b : Bs K mg mb h) (k : ∀ b o, h.get? b = some o → h'.get? b = some o) : Bs K mg mb h' :=
  ⟨b.kin.keeps k, b.glob.keeps k, b.blt.keeps k, b.sup, b.bsup, b.nol.keeps k⟩
/-- a def of a class D, with its cell of __class__ -/
structure SupFn (K : Frag) (prog : Program) (f D cda cc : Addr) (qual : Str) (params : Arguments) (body : List Stmt) (scope : Scope) (fd : FuncData) : Prop where
  ex : ∃ (name : Str) (dV kV doc pm ct : Value) (od an : Option Addr) (osl : Array (Option Value)), fd = ksFn name qual params body scope dV kV doc pm an (.ref cda) ct cc ∧ K.lookup f = some ⟨.type "function", od, .func fd, osl⟩
  code : codeIn K (.ref cda) qual = true
  at_ : ∃ (c : Value) (cd : Option Addr) (vs : Array Value) (cs : Array (Option Value)) (file : Str) (tf : Tok), K.lookup cda = some ⟨c, cd, .fields vs, cs⟩ ∧ vs[2]? = some (.str file tf) ∧ ((prog.main.file : Str) == file) = true
  cell : ∃ (cl : Value) (cld : Option Addr) (csl : Array (Option Value)), K.lookup cc = some ⟨cl, cld, .cell (some (.ref D)), csl⟩
  cls : ∃ cd : ClassData, clsIn K D = some cd
/-- the program's file knows no name super -/
def NoSup (prog : Program) : Prop := (prog.main.scope.names.lookup ("super" : Str)).isSome = false
section
variable {prog : Program} {w : World} {A : Around} {E : Value → Shared → Prop} {h : Heap} {g : Array GenState} {d : Drawn} {t : Nat} {os : OsState} {K : Frag} {mg mb : Str → Option Value} {f D C x L cda cc : Addr} {qual : Str} {params : Arguments} {body body' : List Stmt} {scope : Scope} {fd : FuncData} {ox : Obj} {odx : Option Obj} {m : Str → Option Value} {ar : Arg} {attr : Str} {p0 p1 : Pos} {whole : Sem Value}
theorem clsAt {cd : ClassData} (X : K.In h) (hD : clsIn K D = some cd) : ∃ oD, h.get? D = some oD ∧ oD.data = .cls cd := by
  unfold clsIn at hD
  split at hD
  · rename_i c d cd' sl ho
    cases hD
    exact ⟨_, X _ _ ho, rfl⟩
  · cases hD
theorem sup_base {Q : Value → Shared → Prop} (B : Bs K mg mb h) (S : SupFn K prog f D cda cc qual params body scope fd) (ns : NoSup prog) (hn : h.Ns L m) (hp : (params.posonlyargs ++ params.args).head? = some ar) (hv : m ar.arg = some (.ref x)) (I : InstAt h x ox C odx)
    (hsub : mroIn K C (.ref D) = some true) (hat : (attr == ("__class__" : Str)) = false) (hks : scope.names.lookup ("super" : Str) = some .globalImplicit) (hkc : scope.names.lookup ("__class__" : Str) = some .free) (hka : scope.names.lookup ar.arg = some .local) (hk : scope.kind = .function)
    (q : ∀ h', h'.get? h.objs.size = some (ks_superObj D x C) → (∀ y o, h.get? y = some o → h'.get? y = some o) → Q (.ref h.objs.size) ⟨h', g, d, t, os⟩) :
    _root_.PySem.wpAt (model prog w) A (.func body' (ksEnv qual scope L f (.ref cda) cc)) (attributeBase (.Call (.Name "super" p0) [] [] p1) attr (ksEnv qual scope L f (.ref cda) cc) whole) Q E ⟨h, g, d, t, os⟩ := by
  obtain ⟨name, dV, kV, doc, pm, ct, od, an, osl, rfl, lf⟩ := S.ex
  obtain ⟨c, cd, vs, cs, file, tf, lc, hvs, hfile⟩ := S.at_
  obtain ⟨cl, cld, csl, lcell⟩ := S.cell
  obtain ⟨cdD, hD⟩ := S.cls
  have X := B.kin
  obtain ⟨oD, hD1, hD2⟩ := clsAt X hD
  refine ks_wpAt_super_base (env := ksEnv qual scope L f (.ref cda) cc) hks hkc hat rfl (X _ _ lf) rfl hp rfl (X _ _ lc) rfl hvs hfile ns ?_
  refine ks_loadName_global hk hks (loadGlobal_builtin (env := ksEnv qual scope L f (.ref cda) cc) B.glob B.sup B.blt B.bsup ⟨rfl, ?_⟩)
  refine wpAny_loadName_free hk hkc rfl ⟨_, X _ _ lcell, rfl⟩ ?_
  refine wpAny_loadName_local hk hka hn hv ?_
  refine ks_wpAny_isType_cls hD1 hD2 ⟨rfl, ?_⟩
  refine ks_wpAny_call_super hD1 hD2 I.at_ I.cls (fun c e => ?_) (looks_mroIn X hsub) (fun h' e k => q h' e k)
  have := I.no
  unfold notCls at this
  rw [e] at this
  exact Bool.noConfusion this
/-! ### super().__init__() that finds ValueError's -/
theorem mw_call {u t0 : Addr} {dv : Option Addr} {c2 : Value} {nm qn : Str} {N : Addr} {bs bm bmB : List Value} {hdct : Bool} {sn : List Str} {sub : List Value} {ab : Bool} {col : Option Bool} {dd : Option Addr} {k0 k1 k2 k3 k5 : Option Value} {Bn newId initId : String} {Q : Value → Shared → Prop}
    (FB : ExcBaseFacts Bn newId initId bmB) (hC : h.get? C = some (excClassObj nm qn C N bs bm hdct sn sub ab col dd k0 k1 k2 k3 k5 newId)) (he : h.get? x = some (excRec (.ref C) t0 dv c2 .none (.bool false))) (hu : h.get? u = some (kxs_mw initId x))
    (q : ∀ h', (∀ b o, b ≠ x → h.get? b = some o → h'.get? b = some o) → h'.get? x = some (excRec (.ref C) h.objs.size dv c2 .none (.bool false)) → Q .none ⟨h', g, d, t, os⟩) :
    wpAny (model prog w) A (call (.ref u) []) Q E ⟨h, g, d, t, os⟩ := by
  refine wpAny_call (codeAny_of_tree ?_)
  show wpAny _ A.in1 (callAny (.ref u) ⟨[], []⟩) _ _ _
  simp only [callAny]
  refine wpAny_bind (wpAny_load hu ?_)
  simp only [kxs_mw, show (Value.type "method-wrapper" == Value.type "method" || Value.type "method-wrapper" == Value.type "builtin_function_or_method" || Value.type "method-wrapper" == Value.type "method-wrapper") = true by decide, if_true]
  refine KFB.if_so (by decide) ?_
  refine wpAny_bind (check_bound_init FB.toExcCallFacts hC he rfl ?_)
  refine wpAny_bind (wpAny_pure (wpAny_pure ?_))
  refine ⟨plainId_quiet FB.init.plain _, codeAny_builtin FB.initEntry ?_⟩
  exact exc_init_tree (cls := .ref C) (t0 := t0) (dv := dv) (c2 := c2) (c3 := .none) (b4 := .bool false) he (by decide) fun h' k e' _ => q h' k e'
end
end ExS
set_option Elab.async false
set_option linter.all false
set_option maxRecDepth 100000
set_option maxHeartbeats 4000000
namespace ExS
open PySem PySem.W PySem.Calls PyProof.Rows
abbrev bSup (p0 p1 p2 p3 p4 : Pos) : Stmt := .Expr (.Call (.Attribute (.Call (.Name "super" p0) [] [] p1) "__init__" p2) [] [] p3) p4
abbrev bVal (p5 p6 p7 p8 : Pos) : Stmt := .Assign [.Attribute (.Name "self" p5) "value" p6] (.Name "value" p7) p8
abbrev exN (C t : Addr) : Obj := excRec (.ref C) t none .none .none (.bool false)
abbrev exD (C t dx : Addr) : Obj := excRec (.ref C) t (some dx) .none .none (.bool false)
abbrev scB : Scope := { kind := .function, names := [("self", .local), ("__class__", .free), ("super", .globalImplicit)], isGenerator := false, isCoroutine := false, more := [] }
abbrev scI : Scope := { kind := .function, names := [("self", .local), ("value", .local), ("__class__", .free), ("super", .globalImplicit)], isGenerator := false, isCoroutine := false, more := [] }
/-- the call stands on one line -/
def Line (p0 p1 p2 p3 : Pos) : Prop := ∀ env : Env, eval (.Call (.Attribute (.Call (.Name "super" p0) [] [] p1) "__init__" p2) [] [] p3) env = (do
  let ov ← attributeBase (.Call (.Name "super" p0) [] [] p1) "__init__" env (eval (.Call (.Name "super" p0) [] [] p1) env)
  standAt p2.atName
  let (f, first) ← holding [ov] (getMethod ov "__init__" (do return (← importBound (.Call (.Name "super" p0) [] [] p1) env).getD true))
  callWith p3 f first (backTo p3 (starEach [] env)) [])
/-- an own class of the program over ValueError, of some depth -/
structure OwnC (K : Frag) (C DB fB : Addr) : Prop where
  cls : ∃ nm q N bs bm hdct sn sub ab col dd k0 k1 k2 k3 k5, K.lookup C = some (excClassObj nm q C N bs bm hdct sn sub ab col dd k0 k1 k2 k3 k5 "ValueError.__new__")
  cd : ∃ cd : ClassData, clsIn K C = some cd
  tp : nsIn K cStatics "thirdparty.any" = some none
  subB : mroIn K C (.ref DB) = some true
  initB : ks_superIn K C DB "__init__" = some (some (.builtin "ValueError.__init__"))
  veB : subIn K (.ref C) (.type "ValueError") = some true
section
variable {prog : Program} {w : World} {A : Around} {E : Value → Shared → Prop} {R : Result → Shared → Prop} {h h₀ : Heap} {g : Array GenState} {d : Drawn} {t : Nat} {os : OsState} {K : Frag} {mg mb : Str → Option Value} {C DB fB cdaB ccB x t0 : Addr} {qB : Str} {params : Arguments} {fdB : FuncData} {p0 p1 p2 p3 p4 : Pos}
theorem instN {h : Heap} (hx : h.get? x = some (exN C t0)) : InstAt h x (exN C t0) C none := ⟨hx, rfl, rfl, trivial⟩
/-- BillError.__init__(self) -/
theorem call_base (B : Bs K mg mb h₀) (k0 : ∀ b o, h₀.get? b = some o → h.get? b = some o) (S : SupFn K prog fB DB cdaB ccB qB params [bSup p0 p1 p2 p3 p4] scB fdB) (ns : NoSup prog) (O : OwnC K C DB fB) (ln : Line p0 p1 p2 p3) (room : A.depth < recursionLimit)
    (hx : h.get? x = some (exN C t0)) (hp : (params.posonlyargs ++ params.args).head?.map (·.arg) = some "self") (hbind : bindArgs fdB ⟨[.ref x], []⟩ = pure [(("self" : Str), Value.ref x)])
    (q : ∀ h' tk t1, (∀ b o, b ≠ x → h.get? b = some o → h'.get? b = some o) → h'.get? x = some (exN C t1) → R (.ok (.ret .none)) ⟨h', g, d, tk, os⟩) :
    codeAny (model prog w) A (.call (.ref fB) ⟨[.ref x], []⟩) R ⟨h, g, d, t, os⟩ := by
  have B1 := B.keeps k0
  have S' := S
  obtain ⟨name, dV, kV, doc, pm, ct, od, an, osl, efd, lf⟩ := S.ex
  obtain ⟨nm, qn, N, bs, bm, hdct, sn, sub, ab, col, dd, kk0, kk1, kk2, kk3, kk5, hC⟩ := O.cls
  obtain ⟨cd, hcd⟩ := O.cd
  obtain ⟨ar, har, ear⟩ : ∃ ar, (params.posonlyargs ++ params.args).head? = some ar ∧ ar.arg = "self" := by
    cases e : (params.posonlyargs ++ params.args).head? with
    | none => rw [e] at hp; cases hp
    | some ar => rw [e] at hp; exact ⟨ar, rfl, Option.some.inj hp⟩
  subst efd
  refine ks_codeAny_call_defAt (fd := ksFn name qB params [bSup p0 p1 p2 p3 p4] scB dV kV doc pm an (.ref cdaB) ct ccB) (body := [bSup p0 p1 p2 p3 p4]) (binds := [(("self" : Str), Value.ref x)]) room (B1.kin _ _ lf) rfl B1.nol (codeRec_of B1.kin S.code) rfl (.of_eq hbind) (show ∀ y ∈ scB.names, y.2 ≠ .cell by decide) (fun y hy => by
    rw [List.mem_singleton.mp hy]
    rfl) (fun h₁ hns hk₁ => ?_)
  refine ks_wpAt_execs_cons (ks_wpAt_Expr_any (ks_wpAt_MethodCall ?_ (ln _)))
  have hx1 := hk₁ _ _ hx
  have B2 := B1.keeps hk₁
  have hself : (fun y => List.lookup y ([(("self" : Str), Value.ref x)] : List (Str × Value)).reverse) ar.arg = some (.ref x) := by
    rw [ear]
    rfl
  refine sup_base B2 S' ns hns har hself (instN hx1) O.subB rfl rfl rfl (by rw [ear]; rfl) rfl (fun h2 hso k2 => ?_)
  have B3 := B2.keeps k2
  have hx2 := k2 _ _ hx1
  have hm := O.initB
  unfold ks_superIn at hm
  rw [hcd] at hm
  refine kxs_getMethod kxs_ValueError hso (looks_opaque B3.kin O.tp) (l₀ := cd.mro) (fun A Q E s k q => wpAny_bind ((looks_clsIn B3.kin hcd) A _ E s k (wpAny_pure q))) rfl B3.kin hm ((instN hx2).type.andThen (looks_subIn B3.kin O.veB)) (ks_ne B3.kin (instN hx2) hcd) rfl ?_
  have k3 : ∀ b o, h2.get? b = some o → (h2.push (kxs_mw "ValueError.__init__" x)).get? b = some o := fun b o e => Heap.get?_push_of_some _ e
  have hu : (h2.push (kxs_mw "ValueError.__init__" x)).get? h2.objs.size = some (kxs_mw "ValueError.__init__" x) := Heap.get?_push_at rfl rfl
  refine kxs_callWith (i := "ValueError.__init__") (x := x) rfl (evalArgs_empty ⟨hu, ?_⟩)
  show wpAny _ _ (call (.ref h2.objs.size) []) _ _ _
  refine mw_call PySem.F.excBase_ValueError ((B3.kin.keeps k3) _ _ hC) (k3 _ _ hx2) hu (fun h4 k4 e4 => ?_)
  show _root_.PySem.wpAt _ _ _ (execs [] _) _ _ _
  refine wpAt_of_wpAny (wpAny_pure ?_)
  exact q h4 _ _ (fun b o hb e => k4 b o hb (k3 b o (k2 b o (hk₁ b o e)))) e4
end
end ExS
set_option Elab.async false
set_option linter.all false
set_option maxRecDepth 100000
set_option maxHeartbeats 4000000
namespace ExS
open PySem PySem.W PySem.Calls PyProof.Rows
/-- such a class with an __init__ of its own: super().__init__(), then self.value = value -/
structure OwnI (K : Frag) (C fI DB fB : Addr) : Prop where
  own : OwnC K C DB fB
  initC : ks_superIn K C C "__init__" = some (some (.ref fB))
  subC : mroIn K C (.ref C) = some true
  fnB : fnIn K fB = true
  mro : ∃ cd : ClassData, clsIn K C = some cd ∧ HandSPX.refsVE cd.mro = true ∧ cd.hasDict = true
  sa : findIn K (.ref C) "__setattr__" = some (some (.builtin "object.__setattr__"))
  noV : findIn K (.ref C) "value" = some none
section
variable {prog : Program} {w : World} {A : Around} {E : Value → Shared → Prop} {R : Result → Shared → Prop} {h h₀ : Heap} {g : Array GenState} {d : Drawn} {t : Nat} {os : OsState} {K : Frag} {mg mb : Str → Option Value} {C fI cdaI ccI DB fB cdaB ccB x t0 : Addr} {qI qB : Str} {parI parB : Arguments} {fdI fdB : FuncData} {p0 p1 p2 p3 p4 p5 p6 p7 p8 r0 r1 r2 r3 r4 : Pos} {v : Value} {args : Args}
theorem nsAt {L : Addr} {m : Str → Option Value} {h h' : Heap} (n : h.Ns L m) (k : ∀ o, h.get? L = some o → h'.get? L = some o) : h'.Ns L m := by
  obtain ⟨o, es, ep, ho, r⟩ := n
  exact ⟨o, es, ep, k o ho, r⟩
/-- __init__(self, value) -/
theorem call_init (B : Bs K mg mb h₀) (k0 : ∀ b o, h₀.get? b = some o → h.get? b = some o) (x0 : h₀.get? x = none) (SI : SupFn K prog fI C cdaI ccI qI parI [bSup p0 p1 p2 p3 p4, bVal p5 p6 p7 p8] scI fdI) (SB : SupFn K prog fB DB cdaB ccB qB parB [bSup r0 r1 r2 r3 r4] scB fdB) (ns : NoSup prog) (O : OwnI K C fI DB fB) (ln : Line p0 p1 p2 p3) (ln2 : Line r0 r1 r2 r3) (room : A.depth + 1 < recursionLimit)
    (hx : h.get? x = some (exN C t0)) (hpI : (parI.posonlyargs ++ parI.args).head?.map (·.arg) = some "self") (hpB : (parB.posonlyargs ++ parB.args).head?.map (·.arg) = some "self") (hbI : ∀ s : Shared, K.In s.heap → BindsTo s fdI args [(("self" : Str), Value.ref x), (("value" : Str), v)]) (hbB : bindArgs fdB ⟨[.ref x], []⟩ = pure [(("self" : Str), Value.ref x)])
    (q : ∀ h' tk t1 dx, (∀ b o, b ≠ x → h.get? b = some o → h'.get? b = some o) → h.objs.size ≤ dx → dx ≠ x → h'.get? x = some (exD C t1 dx) → h'.Ns1 dx (fun y => if y = ("value" : Str) then some v else none) → R (.ok (.ret .none)) ⟨h', g, d, tk, os⟩) :
    codeAny (model prog w) A (.call (.ref fI) args) R ⟨h, g, d, t, os⟩ := by
  have B1 := B.keeps k0
  have S' := SI
  obtain ⟨name, dV, kV, doc, pm, ct, od, an, osl, efd, lf⟩ := SI.ex
  obtain ⟨cd, hcd, hve, hdict⟩ := O.mro
  obtain ⟨ar, har, ear⟩ : ∃ ar, (parI.posonlyargs ++ parI.args).head? = some ar ∧ ar.arg = "self" := by
    cases e : (parI.posonlyargs ++ parI.args).head? with
    | none => rw [e] at hpI; cases hpI
    | some ar => rw [e] at hpI; exact ⟨ar, rfl, Option.some.inj hpI⟩
  subst efd
  refine ks_codeAny_call_defAt (fd := ksFn name qI parI [bSup p0 p1 p2 p3 p4, bVal p5 p6 p7 p8] scI dV kV doc pm an (.ref cdaI) ct ccI) (body := [bSup p0 p1 p2 p3 p4, bVal p5 p6 p7 p8]) (binds := [(("self" : Str), Value.ref x), (("value" : Str), v)]) (by omega) (B1.kin _ _ lf) rfl B1.nol (codeRec_of B1.kin SI.code) rfl (hbI _ B1.kin) (show ∀ y ∈ scI.names, y.2 ≠ .cell by decide) (fun y hy => by
    rcases List.mem_cons.mp hy with rfl | hy
    · rfl
    · rw [List.mem_singleton.mp hy]
      rfl) (fun h₁ hns hk₁ => ?_)
  refine ks_wpAt_execs_cons (ks_wpAt_Expr_any (ks_wpAt_MethodCall ?_ (ln _)))
  have hx1 := hk₁ _ _ hx
  have B2 := B1.keeps hk₁
  have hself : (fun y => List.lookup y ([(("self" : Str), Value.ref x), (("value" : Str), v)] : List (Str × Value)).reverse) ar.arg = some (.ref x) := by
    rw [ear]
    rfl
  refine sup_base B2 S' ns hns har hself (instN hx1) O.subC rfl rfl rfl (by rw [ear]; rfl) rfl (fun h2 hso k2 => ?_)
  have B3 := B2.keeps k2
  have hx2 := k2 _ _ hx1
  have hm := O.initC
  unfold ks_superIn at hm
  rw [hcd] at hm
  obtain ⟨_, _, _, _, _, _, odB, _, oslB, _, hfB⟩ := SB.ex
  refine ks_wpAny_getMethod_super hso (looks_opaque B3.kin O.own.tp) (l₀ := cd.mro) (fun A Q E s k q => wpAny_bind ((looks_clsIn B3.kin hcd) A _ E s k (wpAny_pure q))) rfl B3.kin hm (B3.kin _ _ hfB) rfl (ks_ne B3.kin (instN hx2) hcd) rfl ?_
  have k3 : ∀ b o, h2.get? b = some o → (h2.push (methodObj (.ref fB) (.ref x))).get? b = some o := fun b o e => Heap.get?_push_of_some _ e
  have hu : (h2.push (methodObj (.ref fB) (.ref x))).get? h2.objs.size = some (methodObj (.ref fB) (.ref x)) := Heap.get?_push_at rfl rfl
  have B4 := B3.keeps k3
  refine callWith_M0 (K := K) (g := fB) (self := .ref x) ⟨hu, B4.kin⟩ O.fnB ?_
  show wpAny _ _ (call (.ref h2.objs.size) []) _ _ _
  have k04 : ∀ b o, h₀.get? b = some o → (h2.push (methodObj (.ref fB) (.ref x))).get? b = some o := fun b o e => k3 b o (k2 b o (hk₁ b o (k0 b o e)))
  refine wpAny_call (ks_codeAny_call_bound hu (call_base B k04 SB ns O.own ln2 (by show A.depth + 1 < recursionLimit; exact room) (k3 _ _ hx2) hpB hbB (fun h4 tk t1 k4 e4 => ?_)))
  -- self.value = value
  refine ks_wpAt_execs_cons (ks_wpAt_Assign_Attr ?_)
  have kk : ∀ b o, b ≠ x → h₁.get? b = some o → h4.get? b = some o := fun b o hb e => k4 b o hb (k3 b o (k2 b o e))
  have nLx : h.objs.size ≠ x := Nat.ne_of_gt (Heap.lt_size hx)
  have hns4 : h4.Ns h.objs.size (fun y => List.lookup y ([(("self" : Str), Value.ref x), (("value" : Str), v)] : List (Str × Value)).reverse) := nsAt hns (kk _ · nLx)
  have B5 : Bs K mg mb h4 := B.keeps fun b o e => kk b o (fun z => by rw [z, x0] at e; cases e) (hk₁ b o (k0 b o e))
  have ldv : ∀ {A : Around} {E : Value → Shared → Prop} {Q : Value → Shared → Prop} {gg : Array GenState} {dd : Drawn} {tt : Nat} {oo : OsState} {pp : Pos}, Q v ⟨h4, gg, dd, tt, oo⟩ → wpAny (model prog w) A (eval (.Name "value" pp) (ksEnv qI scI h.objs.size fI (.ref cdaI) ccI)) Q E ⟨h4, gg, dd, tt, oo⟩ := fun hq =>
    wpAny_Name (wpAny_loadName_local (s := ⟨h4, _, _, _, _⟩) (env := ksEnv qI scI h.objs.size fI (.ref cdaI) ccI) (m := fun y => List.lookup y ([(("self" : Str), Value.ref x), (("value" : Str), v)] : List (Str × Value)).reverse) rfl rfl hns4 rfl hq) (by decide)
  have lds : ∀ {A : Around} {E : Value → Shared → Prop} {Q : Value → Shared → Prop} {gg : Array GenState} {dd : Drawn} {tt : Nat} {oo : OsState} {pp : Pos}, Q (.ref x) ⟨h4, gg, dd, tt, oo⟩ → wpAny (model prog w) A (eval (.Name "self" pp) (ksEnv qI scI h.objs.size fI (.ref cdaI) ccI)) Q E ⟨h4, gg, dd, tt, oo⟩ := fun hq =>
    wpAny_Name (wpAny_loadName_local (s := ⟨h4, _, _, _, _⟩) (env := ksEnv qI scI h.objs.size fI (.ref cdaI) ccI) (m := fun y => List.lookup y ([(("self" : Str), Value.ref x), (("value" : Str), v)] : List (Str × Value)).reverse) rfl rfl hns4 rfl hq) (by decide)
  refine wpAt_of_wpAny (ldv ?_)
  refine lds ?_
  refine set_plain B5.kin (instN e4) O.sa ?_
  refine HandSPX.exc_osa B5.kin e4 hcd hve hdict O.noV (fun h' tk' dx k5 dn dne hx5 hn5 => ?_)
  show _root_.PySem.wpAt _ _ _ (execs [] _) _ _ _
  refine wpAt_of_wpAny (wpAny_pure ?_)
  have sz : h.objs.size ≤ h4.objs.size := by
    obtain ⟨o, es, ep, ho, _⟩ := hns4
    exact Nat.le_of_lt (Heap.lt_size ho)
  exact q h' _ t1 dx (fun b o hb e => k5 b o hb (kk b o hb (hk₁ b o e))) (Nat.le_trans sz (show h4.objs.size ≤ dx from dn)) dne hx5 hn5
end
end ExS
set_option Elab.async false
set_option linter.all false
set_option maxRecDepth 100000
set_option maxHeartbeats 4000000
namespace ExS
open PySem PySem.Spec PyProof.Rows L2
/-- all that is to be known of one such class -/
structure BillX (P : Program) (K : PySem.W.Frag) (mg : Str → Option Value) (C : Addr) (x : Str) : Prop where
  ex : ∃ (fI cdaI ccI DB fB cdaB ccB : Addr) (qI qB : Str) (parI parB : Arguments) (fdI fdB : FuncData) (p0 p1 p2 p3 p4 p5 p6 p7 p8 r0 r1 r2 r3 r4 : Pos),
    SupFn K P fI C cdaI ccI qI parI [bSup p0 p1 p2 p3 p4, bVal p5 p6 p7 p8] scI fdI ∧ SupFn K P fB DB cdaB ccB qB parB [bSup r0 r1 r2 r3 r4] scB fdB ∧ OwnI K C fI DB fB ∧ Line p0 p1 p2 p3 ∧ Line r0 r1 r2 r3 ∧
    (parI.posonlyargs ++ parI.args).head?.map (·.arg) = some ("self" : Str) ∧ (parB.posonlyargs ++ parB.args).head?.map (·.arg) = some ("self" : Str) ∧
    (∀ (a : Addr) (v : Value) (s : Shared), K.In s.heap → BindsTo s fdI ⟨[.ref a, v], []⟩ [(("self" : Str), Value.ref a), (("value" : Str), v)]) ∧ (∀ (a : Addr) (s : Shared), K.In s.heap → BindsTo s fdI ⟨[.ref a], []⟩ [(("self" : Str), Value.ref a), (("value" : Str), Value.none)]) ∧ (∀ (a : Addr) (v : Value) (s : Shared), K.In s.heap → BindsTo s fdI ⟨[.ref a], [(("value" : Str), v)]⟩ [(("self" : Str), Value.ref a), (("value" : Str), v)]) ∧ (∀ a : Addr, bindArgs fdB ⟨[.ref a], []⟩ = pure [(("self" : Str), Value.ref a)]) ∧
    PySem.W.findIn K (.ref C) "__init__" = some (some (.ref fI)) ∧ PySem.W.typeIn K (.ref fI) = some (.type "function")
  cls : ∃ nm q N bs bm hdct sn sub ab col dd k0 k1 k2 k3 k5, K.lookup C = some (excClassObj nm q C N bs bm hdct sn sub ab col dd k0 k1 k2 k3 k5 "ValueError.__new__") ∧ PySem.HandSPX.refsVE bm = true
  ns : NoSup P
  sup : mg "super" = none
  gC : mg x = some (.ref C)
  kC : PySem.W.keepIn K (.ref C) = true
  exC : PySem.W.subIn K (.ref C) (.type "BaseException") = some true
  tyC : PySem.W.typeIn K (.ref C) = some (.type "type")
def tBill (C : Addr) (te : TE) : L2.St → Hp → XK → Prop := fun σ H Q => te σ H fun y H1 => ∃ v, [y] = [v] ∧ ∀ d, H1 d = none → Q (.ref C) (some d) (upd H1 d (.xd [("value", v)]))
def qBill (C : Addr) (Q : XK) : List V → Hp → Prop := fun vs H1 => ∃ v, vs = [v] ∧ ∀ d, H1 d = none → Q (.ref C) (some d) (upd H1 d (.xd [("value", v)]))
theorem pmk_bill {X : Cx} {x : Str} {C : Addr} {e : Expr} {te : TE} {k : Nat} {p pos : Pos} (T : BillX X.prog X.K X.mg C x) (hr : Room (k + 1) X.A) (hg : Gl X x) (ha : PE X e te)
    (hdb : (x == ("__debug__" : Str)) = false := by decide) (he : starEach [e] X.env = (false, eval e X.env) :: starEach [] X.env := by rfl) (hpl : (backTo pos (starEach [] X.env)).any (·.1) = false := by rfl) :
    PMk X (.Call (.Name x p) [e] [] pos) (tBill C te) := by
  intro pins s σ H Q I h
  obtain ⟨nm, qn, N, bs, bm, hdct, sn, sub, ab, col, dd, k0, k1, k2, k3, k5, hC, hbm⟩ := T.cls
  obtain ⟨fI, cdaI, ccI, DB, fB, cdaB, ccB, qI, qB, parI, parB, fdI, fdB, p0, p1, p2, p3, p4, p5, p6, p7, p8, r0, r1, r2, r3, r4, SI, SB, OI, ln, ln2, hpI, hpB, bI, bI0, bIk, bB, iC, tI⟩ := T.ex
  refine wpAny_Call_Name_kw (ld_glob I hg T.gC ?_ hdb)
  have h2 : tCons te tNil σ H (qBill C Q) := h
  refine PySem.W.callWith_K (h₀ := X.base) I.ok.mod.kin T.kC (thn ((pa_cons ha pa_nil he).run pos pins s σ H (qBill C Q) I h2) fun us s1 ⟨vs, H1, I1, rr, q0⟩ => ⟨I1.kIn, ?_⟩) he hpl
  show wpAny _ _ (call (.ref C) us) _ _ _
  obtain ⟨v, rfl, q1⟩ := q0
  obtain ⟨u, rfl, ru⟩ := vals1 rr
  obtain ⟨hp, g, dr, tk, os⟩ := s1
  obtain ⟨mb, gb, eb⟩ := I1.mod.blt
  have B : Bs X.K X.mg mb X.base := ⟨I1.mod.kin, I1.mod.glob, gb, T.sup, (eb "super" (by decide)).trans (by decide +kernel), I1.mod.nolimit⟩
  have hn : H1 (hp.objs.size + 1) = none := I1.hok.fresh (Nat.le_succ _)
  have kk : ∀ b o, hp.get? b = some o → ((hp.push (PySem.W.kdv_tup [u])).push (PySem.HandSPX.excO C hp.objs.size)).get? b = some o := fun b o e => Heap.get?_push_of_some _ (Heap.get?_push_of_some _ e)
  have hget : ((hp.push (PySem.W.kdv_tup [u])).push (PySem.HandSPX.excO C hp.objs.size)).get? (hp.objs.size + 1) = some (PySem.HandSPX.excO C hp.objs.size) := by heap_get
  have x0 : X.base.get? (hp.objs.size + 1) = none := by
    cases e : X.base.get? (hp.objs.size + 1) with
    | none => rfl
    | some o =>
      have := Heap.lt_size (I1.bk _ _ e)
      exact absurd this (by show ¬ hp.objs.size + 1 < hp.objs.size; omega)
  have hsz2 : ((hp.push (PySem.W.kdv_tup [u])).push (PySem.HandSPX.excO C hp.objs.size)).objs.size = hp.objs.size + 2 := by rw [Heap.size_push, Heap.size_push]
  refine wpAny_call (PySem.HandSPX.call_own F.excBase_ValueError (fun Y => PySem.HandSPX.refsVE_contains Y bm hbm) (I1.kIn _ _ hC) (PySem.W.looks_findIn I1.kIn iC) (fun self => PySem.W.bind_fn I1.kIn self tI) (by show 1 ≤ sizeLine; decide) ?_)
  have room : (X.A.under (.builtin "type.__call__" ⟨.ref C :: [u], []⟩)).depth + 1 < recursionLimit := by
    have := (hr.make C [u] []).dp
    omega
  refine call_init B (fun b o e => kk b o (I1.bk b o e)) x0 SI SB T.ns OI ln ln2 room hget hpI hpB (bI _ _) (bB _) (fun h' tk' t1 dx k5' sz dne hx5 hn5 => ?_)
  refine ⟨rfl, ?_⟩
  rw [hsz2] at sz
  obtain ⟨G, g1, g2⟩ := restrict h' fun b => decide (b ≠ hp.objs.size + 1)
  have gk : ∀ b, b ≠ hp.objs.size + 1 → G.get? b = h'.get? b := fun b hb => g1 b (decide_eq_true hb)
  have ge : G.get? (hp.objs.size + 1) = none := g2 _ (by simp)
  have keepG : ∀ b o, hp.get? b = some o → G.get? b = some o := fun b o e => by
    have hb : b ≠ hp.objs.size + 1 := Nat.ne_of_lt (Nat.lt_succ_of_lt (Heap.lt_size e))
    rw [gk b hb]
    exact k5' b o hb (kk b o e)
  have hd1 : H1 dx = none := I1.hok.fresh (Nat.le_trans (Nat.le_add_right hp.objs.size 2) sz)
  have J : Inv X pins σ (upd H1 dx (.xd [("value", v)])) ⟨G, g, dr, tk', os⟩ := I1.laid (t' := tk') (a := dx) (o := .xd [("value", v)]) (h' := G) keepG (Nat.le_trans (Nat.le_add_right hp.objs.size 2) sz)
    ⟨_, hn5.at fun o y => (gk dx dne).trans y, relO_put (fs := []) (mA := fun _ => none) ru fun g => True.intro⟩
  refine ⟨hp.objs.size + 1, _, _, ⟨G, g, dr, tk', os⟩, upd H1 dx (.xd [("value", v)]), .ref C, some dx, rfl, J, fun b o e => ?_, ge, hx5, ⟨rfl, rfl⟩, rfl, rfl, ?_, rfl, I1.bare, raises_own T.exC T.tyC, q1 dx hd1⟩
  · by_cases hb : b = hp.objs.size + 1
    · rw [hb, ge] at e
      cases e
    · exact (gk b hb).symm.trans e
  · rw [upd_ne dne.symm]
    exact hn
end ExS
set_option Elab.async false
set_option linter.all false
set_option maxRecDepth 100000
set_option maxHeartbeats 4000000
namespace ExS
open PySem PySem.Spec PyProof.Rows L2
theorem pmk_bill0 {X : Cx} {x : Str} {C : Addr} {k : Nat} {p pos : Pos} (T : BillX X.prog X.K X.mg C x) (hr : Room (k + 1) X.A) (hg : Gl X x)
    (hdb : (x == ("__debug__" : Str)) = false := by decide)  :
    PMk X (.Call (.Name x p) [] [] pos) (fun _ H Q => ∀ d, H d = none → Q (.ref C) (some d) (upd H d (.xd [("value", .non)]))) := by
  intro pins s σ H Q I h
  obtain ⟨nm, qn, N, bs, bm, hdct, sn, sub, ab, col, dd, k0, k1, k2, k3, k5, hC, hbm⟩ := T.cls
  obtain ⟨fI, cdaI, ccI, DB, fB, cdaB, ccB, qI, qB, parI, parB, fdI, fdB, p0, p1, p2, p3, p4, p5, p6, p7, p8, r0, r1, r2, r3, r4, SI, SB, OI, ln, ln2, hpI, hpB, bI, bI0, bIk, bB, iC, tI⟩ := T.ex
  refine wpAny_Call_Name_kw (ld_glob I hg T.gC ?_ hdb)
  refine PySem.W.callWith_K0 I.kIn T.kC ?_
  show wpAny _ _ (call (.ref C) []) _ _ _
  obtain ⟨hp, g, dr, tk, os⟩ := s
  obtain ⟨mb, gb, eb⟩ := I.mod.blt
  have B : Bs X.K X.mg mb X.base := ⟨I.mod.kin, I.mod.glob, gb, T.sup, (eb "super" (by decide)).trans (by decide +kernel), I.mod.nolimit⟩
  have hn : H (hp.objs.size + 1) = none := I.hok.fresh (Nat.le_succ _)
  have kk : ∀ b o, hp.get? b = some o → ((hp.push (PySem.W.kdv_tup [])).push (PySem.HandSPX.excO C hp.objs.size)).get? b = some o := fun b o e => Heap.get?_push_of_some _ (Heap.get?_push_of_some _ e)
  have hget : ((hp.push (PySem.W.kdv_tup [])).push (PySem.HandSPX.excO C hp.objs.size)).get? (hp.objs.size + 1) = some (PySem.HandSPX.excO C hp.objs.size) := by heap_get
  have x0 : X.base.get? (hp.objs.size + 1) = none := by
    cases e : X.base.get? (hp.objs.size + 1) with
    | none => rfl
    | some o =>
      have := Heap.lt_size (I.bk _ _ e)
      exact absurd this (by show ¬ hp.objs.size + 1 < hp.objs.size; omega)
  have hsz2 : ((hp.push (PySem.W.kdv_tup [])).push (PySem.HandSPX.excO C hp.objs.size)).objs.size = hp.objs.size + 2 := by rw [Heap.size_push, Heap.size_push]
  refine wpAny_call (PySem.HandSPX.call_own F.excBase_ValueError (fun Y => PySem.HandSPX.refsVE_contains Y bm hbm) (I.kIn _ _ hC) (PySem.W.looks_findIn I.kIn iC) (fun self => PySem.W.bind_fn I.kIn self tI) (by show 0 ≤ sizeLine; decide) ?_)
  have room : (X.A.under (.builtin "type.__call__" ⟨.ref C :: [], []⟩)).depth + 1 < recursionLimit := by
    have := (hr.make C [] []).dp
    omega
  refine call_init B (fun b o e => kk b o (I.bk b o e)) x0 SI SB T.ns OI ln ln2 room hget hpI hpB (bI0 _) (bB _) (fun h' tk' t1 dx k5' sz dne hx5 hn5 => ?_)
  refine ⟨rfl, ?_⟩
  rw [hsz2] at sz
  obtain ⟨G, g1, g2⟩ := restrict h' fun b => decide (b ≠ hp.objs.size + 1)
  have gk : ∀ b, b ≠ hp.objs.size + 1 → G.get? b = h'.get? b := fun b hb => g1 b (decide_eq_true hb)
  have ge : G.get? (hp.objs.size + 1) = none := g2 _ (by simp)
  have keepG : ∀ b o, hp.get? b = some o → G.get? b = some o := fun b o e => by
    have hb : b ≠ hp.objs.size + 1 := Nat.ne_of_lt (Nat.lt_succ_of_lt (Heap.lt_size e))
    rw [gk b hb]
    exact k5' b o hb (kk b o e)
  have hd1 : H dx = none := I.hok.fresh (Nat.le_trans (Nat.le_add_right hp.objs.size 2) sz)
  have J : Inv X pins σ (upd H dx (.xd [("value", .non)])) ⟨G, g, dr, tk', os⟩ := I.laid (t' := tk') (a := dx) (o := .xd [("value", .non)]) (h' := G) keepG (Nat.le_trans (Nat.le_add_right hp.objs.size 2) sz)
    ⟨_, hn5.at fun o y => (gk dx dne).trans y, relO_put (fs := []) (mA := fun _ => none) (y := .non) (u := Value.none) rfl fun g => True.intro⟩
  refine ⟨hp.objs.size + 1, _, _, ⟨G, g, dr, tk', os⟩, upd H dx (.xd [("value", .non)]), .ref C, some dx, rfl, J, fun b o e => ?_, ge, hx5, ⟨rfl, rfl⟩, rfl, rfl, ?_, rfl, I.bare, raises_own T.exC T.tyC, h dx hd1⟩
  · by_cases hb : b = hp.objs.size + 1
    · rw [hb, ge] at e
      cases e
    · exact (gk b hb).symm.trans e
  · rw [upd_ne dne.symm]
    exact hn
end ExS
set_option Elab.async false
set_option linter.all false
set_option maxRecDepth 100000
set_option maxHeartbeats 4000000
/-! except X as e: suite, where the exception is kept behind the suite, in another name. -/
namespace ExS
open PySem PySem.Spec PyProof.Rows L2
/-- an exception that was caught and is kept, of the class cls, its dict at d -/
def ExK (cls : Value) (d : Option Addr) (a : Addr) : HO := .ext fun h => ∃ (oe : Obj) (vs : Array Value), h.get? a = some oe ∧ Zc cls d oe ∧ oe.data = .fields vs
theorem exK_ok {P : Program} {w : World} {H : Hp} {h : Heap} {a : Addr} {cls : Value} {d : Option Addr} {oe : Obj} {vs : Array Value} (e : h.get? a = some oe) (z : Zc cls d oe) (q : oe.data = .fields vs) : ObjOk P w H h a (ExK cls d a) :=
  ⟨⟨oe, vs, e, z, q⟩, ⟨oe, e⟩, fun _ _ ⟨o, v, q, r⟩ k => ⟨o, v, k o q, r⟩⟩
section
variable {X : Cx} {pins : List (Addr × Obj)} {σ : L2.St} {H : Hp} {s : Shared} {a : Addr} {oe : Obj} {vs : Array Value} {cls : Value} {d : Option Addr}
theorem Inv.unsuiteP {pn' : List (Addr × Obj)} {q : Addr × Obj} (I : Inv (X.suite a (q :: (X.pn ++ pins))) pn' σ H s) (ok : X.Ok) : Inv X (q :: pins) σ H s :=
  ⟨ok, I.os, I.bare, I.base, I.loc, I.cell, I.free, I.freeC, fun p hp => I.pin p (List.mem_append_left _ (by
    rcases List.mem_append.mp hp with h | h
    · exact List.mem_cons_of_mem _ (List.mem_append_left _ h)
    · rcases List.mem_cons.mp h with h | h
      · rw [h]
        exact List.mem_cons_self ..
      · exact List.mem_cons_of_mem _ (List.mem_append_right _ h))), I.hok, I.len⟩
/-- what is pinned is known from now on -/
theorem Inv.kept (I : Inv X ((a, oe) :: pins) σ H s) (z : Zc cls d oe) (hd : oe.data = .fields vs) (n0 : X.s_0.heap.get? a = none) (hp : ∀ p ∈ X.pn ++ pins, p.1 ≠ a) : Inv X pins σ (upd H a (ExK cls d a)) s := by
  obtain ⟨ha, na, nL, nF, nc⟩ := I.pin (a, oe) (List.mem_append_right _ (List.mem_cons_self ..))
  have ne0 : ∀ b o, X.s_0.heap.get? b = some o → b ≠ a := fun b o e y => by
    rw [y, n0] at e
    cases e
  have neH : ∀ {b : Addr} {o : HO}, H b = some o → b ≠ a := fun {b o} e y => by
    rw [y, na] at e
    cases e
  have cne : ∀ x c, X.env.cells.lookup x = some c → c ≠ a := fun x c e y => by
    obtain ⟨v, o, ho, hv⟩ := I.cell x c e
    rw [y] at ho
    have := Option.some.inj (ho.symm.trans ha)
    rw [this] at hv
    exact nc _ hv
  refine ⟨I.ok, I.os, I.bare, ⟨I.base.keep, I.base.slot, fun b o e n hx => ?_, I.base.there, fun b xs e => ?_, fun b o u e => ?_, fun b ps e => ?_⟩, I.loc, I.cell, ?_, fun x c e => ?_, fun p hpp => ?_, fun b u e => ?_, I.len⟩
  · rw [upd_ne (ne0 b o e)]
    exact I.base.free b o e n hx
  · have z := I.base.tups b xs e
    rw [upd_ne (neH z)]
    exact z
  · have z := I.base.frzs b o u e
    rw [upd_ne (neH z)]
    exact z
  · obtain ⟨more, z⟩ := I.base.tbls b ps e
    exact ⟨more, by rw [upd_ne (neH z)]; exact z⟩
  · rw [upd_ne (Ne.symm nL)]
    exact I.free
  · rw [upd_ne (cne x c e)]
    exact I.freeC x c e
  · obtain ⟨e, n, ne, nf, dd⟩ := I.pin p (by
      rcases List.mem_append.mp hpp with h | h
      · exact List.mem_append_left _ h
      · exact List.mem_append_right _ (List.mem_cons_of_mem _ h))
    exact ⟨e, by rw [upd_ne (hp p hpp)]; exact n, ne, nf, dd⟩
  · by_cases hb : b = a
    · rw [hb] at e ⊢
      rw [upd_same] at e
      cases e
      exact exK_ok ha z hd
    · rw [upd_ne hb] at e
      exact (I.hok b u e).stay (fun c v _ q => q) (fun c q => by rw [upd_ne (neH q)]; exact q) fun c xs q => by rw [upd_ne (neH q)]; exact q
end
/-- what the clause 'except x as n' wishes of an exception of the body, which is kept behind the suite -/
def wKeep (K : PySem.W.Frag) (c : Value) (i : Nat) (ts : Addr → Value → Option Addr → TS) (Wout : WX) (D : Ends) : WX := fun cls d σ H =>
  ∃ b, PySem.W.exmOne K cls c = some b ∧ (b = true → ∀ a, H a = none → ts a cls d { nx := fun σ' H' => D.nx (σ'.set i none) (upd H' a (ExK cls d a)), rt := fun _ _ => False, bk := fun _ _ => False, ct := fun _ _ => False } (σ.set i (some (.ref a))) H) ∧
    (b = false → Wout cls d σ H)
section
variable {X : Cx} {x n : Str} {c : Value} {i : Nat} {body suite : List Stmt} {b₀ : Stmt} {np pos pos' : Pos} {tb : WX → TS} {ts : Addr → Value → Option Addr → TS} {Wout : WX}
theorem ps_try_keep (hs : X.stack = X.env :: X.outer) (hf : X.env.frame = some X.env.locals) (hN : X.N.Nodup) (hi : X.N[i]? = some n) (hln : X.env.kindOf n = some .local) (hc : Names X x c) (tk : Takes X Wout) (hex : X.ex = [])
    (hb : ∀ (W : WX) (pn : List (Addr × Obj)) (xe : Value → Shared → Prop), Takes (X.tr pn xe) W → PassesOwn (model X.prog X.w) X.A X.env xe → PSs (X.tr pn xe) body (tb W))
    (hsu : ∀ (a : Addr) (oe : Obj) (cls : Value) (d : Option Addr) (pn : List (Addr × Obj)), Zc cls d oe → (∃ vs, oe.data = .fields vs) → PSs (X.suite a ((a, oe) :: pn)) (b₀ :: suite) (ts a cls d)) :
    PS X (.Try body [.ExceptHandler (some (.Name x np)) (some n) (b₀ :: suite) pos'] [] [] pos) (fun D σ H => tb (wKeep X.K c i ts Wout D) D σ H) := by
  refine ⟨fun pins s σ H D I h => ?_⟩
  have ok := I.ok
  have hfr : X.A.frames = some (X.env :: X.outer) := by rw [ok.frames, hs]
  have hloc : Loc X.env.scope n := .inl hln
  refine wpAny_Try_except ?_
  refine wpAny_mono ((hb (wKeep X.K c i ts Wout D) (X.pn ++ pins) (fun e s₁ => wpAny (model X.prog X.w) X.A (noteFrame e X.env) (fun _ s₂ => wpAny (model X.prog X.w) X.A (setFlight e none) (fun _ s₃ =>
    wpAny (model X.prog X.w) X.A (handleBy e X.env [.ExceptHandler (some (.Name x np)) (some n) (b₀ :: suite) pos']) (SP X pins D) X.xe s₃) X.xe s₂) X.xe s₁) (fun u s' xx => ?_) PassesOwn.looking).run [] s σ H D (I.toTry _) h) (fun f s1 hsp => ?_) (fun e s1 he => he)
  · -- the catch
    obtain ⟨a, B, sI, pins', σ', H', cls, d, rfl, J', nb, up, sky, na, os, ag, b, hb1, hyes, hno⟩ := xx
    have J : Inv X pins σ' H' sI := J'.ofTry ok
    have sky' : Sky B (X.env :: X.outer) a (Zc cls d) X.env.locals s'.heap := by rw [← hs]; exact sky
    have Ba : B.get? a = none := by
      rcases sky' with z | z | z
      · exact z.2.1
      · exact z.2.1
      · exact z.2.1
    show wpAny (model X.prog X.w) X.A (noteFrame (.ref a) X.env) _ _ _
    refine Sky.land Zc.steady hfr hf sky' fun h3 fl3 up3 => ?_
    have J3 : Inv X pins σ' H' { s' with heap := h3 } := J.landed nb fl3.1 (up.trans up3) os ag
    obtain ⟨oe3, vs3, he3, hz3, hd3⟩ := fl3.there
    have notFr : ∀ {h : Heap} {o : Obj} {vs : Array Value}, h.FunFrames B (X.env :: X.outer) → h.get? a = some o → o.data = .fields vs → a ∉ frs (X.env :: X.outer) := fun {h o vs} ff e dd hm => by
      obtain ⟨_, o', e', hnf⟩ := ff.mem hm
      rw [e] at e'; cases e'
      exact hnf _ dd
    have nfr := notFr fl3.2.2.1 he3 hd3
    have nL : a ≠ X.env.locals := fun z => nfr (List.mem_filterMap.mpr ⟨X.env, List.mem_cons_self, by rw [hf, z]⟩)
    have nF : a ∉ X.fs := fun hm => by
      obtain ⟨e, he, q⟩ := List.mem_filterMap.mp hm
      exact nfr (List.mem_filterMap.mpr ⟨e, List.mem_cons_of_mem _ he, q⟩)
    have nI : sI.heap.get? a = none := by
      cases e : sI.heap.get? a with
      | none => rfl
      | some o =>
        have z := nb a o e (by rw [hs]; exact nfr)
        rw [Ba] at z
        cases z
    have n0 : X.s_0.heap.get? a = none := by
      cases e : X.s_0.heap.get? a with
      | none => rfl
      | some o =>
        obtain ⟨o', z⟩ := J.base.there a o e (by rw [hex]; exact List.not_mem_nil)
        rw [nI] at z
        cases z
    have hpn : ∀ p ∈ X.pn ++ pins, p.1 ≠ a := fun p hp y => by
      have z := (J.pin p hp).1
      rw [y, nI] at z
      cases z
    have S3 := J3.suite he3 hd3 na nL nF
    refine wpAny_handleBy_cons (codeAny_handlers_test ?_) (by intro q; cases q)
    have LT : PySem.W.Looks (model X.prog X.w) h3 (typeOf (.ref a)) cls := fun A Q E s k q => wpAny_typeOf_ref (k _ _ he3) (by rw [hz3.1]; exact q)
    have LM := PySem.W.exm_one (M := model X.prog X.w) (J3.kIn) LT hb1
    have test : ∀ {Q : Value → Shared → Prop} {E : Value → Shared → Prop}, Q c { s' with heap := h3 } → wpAny (model X.prog X.w) (X.A.mark (some (.ref a))) (eval (.Name x np) X.env) Q E { s' with heap := h3 } := fun {Q E} q => by
      obtain ⟨hg, hdbg, hm | ⟨hm, hv, hnn⟩⟩ := hc
      · exact ld_glob (X := X.suite a ((a, oe3) :: (X.pn ++ pins))) S3 hg hm q hdbg
      · exact ld_blt (X := X.suite a ((a, oe3) :: (X.pn ++ pins))) S3 hg hm hv q hnn hdbg
    refine test (LM.here ?_)
    cases b with
    | true =>
      refine codeAny_handlers_suite_as ?_
      refine HandSPX.lands_againZ fl3 fun h4 fl4 up4 => ?_
      have J4 : Inv X pins σ' H' { s' with heap := h4 } := J.landed nb fl4.1 ((up.trans up3).trans up4) os ag
      obtain ⟨oe4, vs4, he4, hz4, hd4⟩ := fl4.there
      have S4 := J4.suite he4 hd4 na nL nF
      refine store_ok (X := X.suite a ((a, oe4) :: (X.pn ++ pins))) (v := .ref a) S4 hN hi hloc rfl (fun s5 S5 => ?_) (.inr hln)
      refine wpAny_mono ((hsu a oe4 cls d (X.pn ++ pins) hz4 ⟨_, hd4⟩).run [] s5 _ H' _ S5 (hyes rfl a na)) (fun f s6 hsp => ?_) (fun _ _ z => False.elim z)
      cases f with
      | next =>
        obtain ⟨σ6, H6, S6, q6⟩ := hsp
        exact gone_ok (ExS.Inv.unsuiteP S6 ok) hN hi hln fun s7 J7 => ⟨_, _, ExS.Inv.kept J7 hz4 hd4 n0 hpn, q6⟩
      | brk =>
        obtain ⟨σ6, H6, S6, q6⟩ := hsp
        exact q6.elim
      | cont =>
        obtain ⟨σ6, H6, S6, q6⟩ := hsp
        exact q6.elim
      | ret u =>
        obtain ⟨v6, σ6, H6, S6, r6, q6⟩ := hsp
        exact q6.elim
    | false =>
      show wpAny _ X.A (handleBy (.ref a) X.env []) _ _ _
      refine wpAny_handleBy_nil ?_
      obtain ⟨k1, k2, k3, oe, vs, T, oT, ts', he, hz, hd, h1, hr⟩ := id fl3
      unfold PySem.passOn
      refine wpAny_bind (wpAny_field he hd h1 ?_)
      rw [if_neg (show ¬ ((Value.ref T == Value.none) = true) from by simp)]
      have fin : wpAny (model X.prog X.w) X.A (setFlight (.ref a) X.env.frame) (fun _ s4 => wpAny (model X.prog X.w) X.A (throw (.ref a) : Sem Flow) (SP X pins D) X.xe s4) X.xe { s' with heap := h3 } := by
        rw [hf]
        refine HandSPX.setFlight_upZ fl3 fun h4 hh4 up4 => wpAny_throw (tk _ _ ?_)
        exact ⟨a, B, sI, pins, σ', H', cls, d, rfl, J, nb, (up.trans up3).trans up4, .inr (.inr (by rw [hs]; exact hh4)), na, os, ag, hno rfl⟩
      first
        | exact wpAny_bind (wpAny_pure (wpAny_bind fin))
        | exact wpAny_bind fin
  · cases f with
    | next =>
      obtain ⟨σ', H', J', q⟩ := hsp
      exact wpAny_execs_nil ⟨σ', H', J'.ofTry ok, q⟩
    | brk =>
      obtain ⟨σ', H', J', q⟩ := hsp
      exact ⟨σ', H', J'.ofTry ok, q⟩
    | cont =>
      obtain ⟨σ', H', J', q⟩ := hsp
      exact ⟨σ', H', J'.ofTry ok, q⟩
    | ret u =>
      obtain ⟨v, σ', H', J', r, q⟩ := hsp
      exact ⟨v, σ', H', J'.ofTry ok, r, q⟩
end
end ExS
set_option Elab.async false
set_option linter.all false
set_option maxRecDepth 100000
set_option maxHeartbeats 4000000
/-! isinstance of such an exception, and its field. -/
namespace ExS
open PySem PySem.Spec PyProof.Rows L2
theorem exK_at {P : Program} {w : World} {H : Hp} {h : Heap} {a : Addr} {cls : Value} {d : Option Addr} (hok : HOk P w H h) (e : H a = some (ExK cls d a)) : ∃ (oe : Obj) (vs : Array Value), h.get? a = some oe ∧ Zc cls d oe ∧ oe.data = .fields vs := by
  have x : ObjOk P w H h a (ExK cls d a) := hok a _ e
  exact x.1
theorem inst_at {P : Program} {w : World} {H : Hp} {h : Heap} {a D dx : Addr} {fs : List (Str × V)} (hok : HOk P w H h) (e : H a = some (ExK (.ref D) (some dx) a)) (ed : H dx = some (.xd fs)) : ∃ (oe od : Obj) (mA : Str → Option Value), PySem.W.InstAt h a oe D (some od) ∧ (∀ f, RelO (fs.lookup f) (mA f)) ∧ ∀ n : Str, PySem.W.lookIn n od = some (mA n) := by
  obtain ⟨oe, vs, ha, hz, hd⟩ := exK_at hok e
  have hx : ObjOk P w H h dx (.xd fs) := hok dx _ ed
  obtain ⟨mA, hns, hr⟩ := hx
  obtain ⟨od, ho, hl⟩ := lookIn_ns hns
  exact ⟨oe, od, mA, ⟨ha, hz.1, by unfold PySem.W.notCls; rw [hd] <;> rfl, by rw [hz.2]; exact ho⟩, hr, hl⟩
/-- isinstance(x, c): of whatever, also of an exception that is kept -/
def rIsX (K : PySem.W.Frag) : List V → Hp → VK → Prop := fun xs H Q => rIsi K xs H Q ∨
  ∃ (a D dx : Addr) (fs : List (Str × V)) (c : V) (cv : Value) (b : Bool), xs = [.ref a, c] ∧ H a = some (ExK (.ref D) (some dx) a) ∧ H dx = some (.xd fs) ∧ ExcC K D ∧ ClsV c cv ∧ PySem.W.kitOne K (.ref D) cv = some b ∧ Q (.bl b) H
theorem call_isX {X : Cx} : CallR X (.builtin "isinstance") (rIsX X.K) := by
  intro pins s σ H xs us Q I r h
  rcases h with h | ⟨a, D, dx, fs, c, cv, b, rfl, ea, ed, C, hcv, e, q⟩
  · exact call_isi pins s σ H xs us Q I r h
  · obtain ⟨u1, u2, rfl, r1, r2⟩ := vals2 r
    cases r1
    have e2 := hcv.eq r2
    subst e2
    obtain ⟨oe, od, mA, J, _, _⟩ := inst_at I.hok ea ed
    have hcl : (PySem.W.clsIn X.K D).isSome = true := by
      obtain ⟨cd, hc, _⟩ := PySem.W.any_some C.hd
      rw [hc]
      rfl
    exact PySem.W.kia_one (PySem.W.kitx_exc hcl C.hg C.hk C.hs C.ha C.hn C.ht C.hm) I.kIn J e (fun z => nomatch z) fun tk => ⟨.bl b, H, I.kept (t' := tk) fun _ _ z => z, rfl, q⟩
/-- e.value, e such an exception -/
def tKf (K : PySem.W.Frag) (n : Str) (te : TE) : TE := fun σ H Q => te σ H fun x H1 => ∃ (a C dd : Addr) (fs : List (Str × V)) (v : V), x = .ref a ∧ H1 a = some (ExK (.ref C) (some dd) a) ∧ XfC K C ∧ PySem.W.findIn K (.ref C) n = some none ∧ H1 dd = some (.xd fs) ∧ fs.lookup n = some v ∧ Q v H1
theorem pe_kf {X : Cx} {e : Expr} {te : TE} {pos : Pos} {n : Str} (he : PE X e te) (hb : attributeBase e n X.env (eval e X.env) = eval e X.env := by rfl) : PE X (.Attribute e n pos) (tKf X.K n te) := by
  refine ⟨fun pins s σ H Q I h => ?_⟩
  refine attr_of hb (thn (he.run pins s σ H _ I h) fun u s1 hh => ?_)
  obtain ⟨x, H1, I1, rx, a, C, dd, fs, v, ex, ea, T, hno, ed, l, q⟩ := hh
  subst ex
  obtain rfl : u = Value.ref a := rx
  obtain ⟨oe, od, mA, J, hr, hl⟩ := inst_at I1.hok ea ed
  obtain ⟨u, hu, ru⟩ := RelO.some_of (v := v) (o := mA n) (by rw [← l]; exact hr n)
  exact HandSPX.exc_get I1.kIn J T.ga T.gg T.exC (PySem.W.findObj_own T.hdC hno rfl (by rw [hl, hu])) (handed_of ru) ⟨v, H1, I1.tok _, ru, q⟩
end ExS
set_option Elab.async false
set_option linter.all false
set_option maxRecDepth 100000
set_option maxHeartbeats 4000000
namespace Cb
open PySem PySem.Spec PyProof.Rows L2 ExS
/-! ### defs that may raise -/
def SaysX (P : Program) (w : World) (K : PySem.W.Frag) (mg : Str → Option Value) (base : Heap) (k : Nat) (x : Str) (ps : List Str) (sp : Sp) : Prop :=
  ∃ (f : Addr) (fd : FuncData), FnOk P w K mg base (L2.CX P w) k f fd ps sp ∧ mg x = some (.ref f) ∧ PySem.W.keepIn K (.ref f) = true ∧ Binds K fd ps []
/-- by place and by keywords -/
def Has2 (K : PySem.W.Frag) (mg : Str → Option Value) (x : Str) (st : Stmt) (ps ks : List Str) (g : {α : Type} → List α → List α) : Prop :=
  ∃ (f : Addr) (fd : FuncData), Fun K x x st f fd ∧ mg x = some (.ref f) ∧ Binds K fd ps [] ∧ KBinds K fd ps ks (kOnly g) (kOnly g)
def SaysX2 (P : Program) (w : World) (K : PySem.W.Frag) (mg : Str → Option Value) (base : Heap) (k : Nat) (x : Str) (ps ks : List Str) (g : {α : Type} → List α → List α) (sp : Sp) : Prop :=
  ∃ (f : Addr) (fd : FuncData), FnOk P w K mg base (L2.CX P w) k f fd ps sp ∧ mg x = some (.ref f) ∧ PySem.W.keepIn K (.ref f) = true ∧ Binds K fd ps [] ∧ KBinds K fd ps ks (kOnly g) (kOnly g)
/-- the wish of what is raised is never asked -/
def calmSp (sp : Sp) : Sp := fun vs H Q _ => sp vs H Q E0
section
variable {P : Program} {w : World} {K : PySem.W.Frag} {mg : Str → Option Value} {base : Heap} {k : Nat} {x : Str} {st : Stmt} {N ps ks : List Str} {sp : Sp} {g : {α : Type} → List α → List α}
theorem fn_calm {f : Addr} {fd : FuncData} (F : FnOk P w K mg base (L2.CX P w) k f fd ps sp) : FnOk P w K mg base CX0 k f fd ps (calmSp sp) := by
  refine ⟨fun vs H Q E h => F.len vs H Q E0 h, fun A outer s H args us vs Q E hr he hb hv hs => ?_⟩
  refine codeAny_mono (F.run A outer s H args us vs Q E0 hr he hb hv hs) ?_
  intro r s' h
  match r, h with
  | .ok (.ret u), h => exact h
  | .ok .next, h => exact h
  | .ok .brk, h => exact h
  | .ok .cont, h => exact h
  | .error e, h =>
    obtain ⟨_, _, _, _, _, _, _, _, _, _, _, _, z⟩ := h
    exact z.elim
theorem saysX (h : Has K mg x st ps) (S : FnScope N ps (defScope st)) (len : ∀ vs H Q E, sp vs H Q E → vs.length = ps.length)
    (body : ∀ (f : Addr) (cdv : Value) (A : Around) (outer : List Env) (s : Shared) (H : Hp) (vs : List V) (Q : VK) (E : XK), Room k (A.deeper (envOfC x (defScope st) s.heap.objs.size f cdv)) → sp vs H Q E →
      ∃ t, PSs (cxOf (L2.CX P w) P w K mg base N x (defScope st) f cdv A outer s H E) (defBody st) t ∧ t { nx := fun _ H' => Q .non H', rt := Q } (start N vs) H) : SaysX P w K mg base (k + 1) x ps sp := by
  obtain ⟨f, fd, F, hm, b⟩ := h
  exact ⟨f, fd, F.okX S len fun cdv A outer s H vs Q E => body f cdv A outer s H vs Q E, hm, F.kp, b⟩
theorem saysX2 (h : Has2 K mg x st ps ks g) (S : FnScope N ps (defScope st)) (len : ∀ vs H Q E, sp vs H Q E → vs.length = ps.length)
    (body : ∀ (f : Addr) (cdv : Value) (A : Around) (outer : List Env) (s : Shared) (H : Hp) (vs : List V) (Q : VK) (E : XK), Room k (A.deeper (envOfC x (defScope st) s.heap.objs.size f cdv)) → sp vs H Q E →
      ∃ t, PSs (cxOf (L2.CX P w) P w K mg base N x (defScope st) f cdv A outer s H E) (defBody st) t ∧ t { nx := fun _ H' => Q .non H', rt := Q } (start N vs) H) : SaysX2 P w K mg base (k + 1) x ps ks g sp := by
  obtain ⟨f, fd, F, hm, b, kb⟩ := h
  exact ⟨f, fd, F.okX S len fun cdv A outer s H vs Q E => body f cdv A outer s H vs Q E, hm, F.kp, b, kb⟩
theorem SaysX2.toX (c : SaysX2 P w K mg base k x ps ks g sp) : SaysX P w K mg base k x ps sp := by
  obtain ⟨f, fd, F, hm, kp, b, kb⟩ := c
  exact ⟨f, fd, F, hm, kp, b⟩
theorem SaysX2.calmK (c : SaysX2 P w K mg base k x ps ks g sp) : SaysK P w K mg base k x ps ks g (calmSp sp) := by
  obtain ⟨f, fd, F, hm, kp, b, kb⟩ := c
  exact ⟨f, fd, fn_calm F, hm, kp, kb⟩
theorem SaysX.calm (c : SaysX P w K mg base k x ps sp) : Says P w K mg base k x ps (calmSp sp) := by
  obtain ⟨f, fd, F, hm, kp, b⟩ := c
  exact ⟨f, fd, fn_calm F, hm, kp, b⟩
theorem has2 {f : Addr} {oc : Value} {od an : Option Addr} {osl : Array (Option Value)} {kV doc pm cdv ct : Value} {h : Heap} (X : K.In h) (G : h.Ns mainGlobals mg) (a : PySem.W.nsIn K mainGlobals x = some (some (.ref f)))
    (l : K.lookup f = some ⟨oc, od, .func (PySem.W.fnOf x x (defArgs st) (defBody st) (defScope st) .none kV doc pm an cdv ct), osl⟩) (c : PySem.W.codeIn K cdv x = true) (kp : PySem.W.keepIn K (.ref f) = true)
    (b : ∀ (kV doc pm : Value) (an : Option Addr) (cdv ct : Value) (us : List Value), us.length = ps.length → bindArgs (PySem.W.fnOf x x (defArgs st) (defBody st) (defScope st) .none kV doc pm an cdv ct) ⟨us, []⟩ = pure (ps.zip us))
    (kb : KBinds K (PySem.W.fnOf x x (defArgs st) (defBody st) (defScope st) .none kV doc pm an cdv ct) ps ks (kOnly g) (kOnly g)) :
    Has2 K mg x st ps ks g := ⟨f, _, fun_mk l c kp, PySem.W.mg_of X G a, (fun_mk l c kp).binds b, kb⟩
theorem Has2.has (h : Has2 K mg x st ps ks g) : Has K mg x st ps := by
  obtain ⟨f, fd, F, hm, b, kb⟩ := h
  exact ⟨f, fd, F, hm, b⟩
end
section
variable {X : Cx} {W : WX} {k j : Nat} {x : Str} {ps : List Str} {sp : Sp} {p pos : Pos} {e : Expr} {es : List Expr} {t : TA}
theorem pe_sx (c : SaysX X.prog X.w X.K X.mg X.base k x ps sp) (hr : Room j X.A) (tk : Takes X W) (ha : PA X (e :: es) t) (le : k ≤ j := by decide) (gl : Gl X x := by rfl) (nd : (x == ("__debug__" : Str)) = false := by decide)
    (se : starEach (e :: es) X.env = (false, eval e X.env) :: starEach es X.env := by rfl) (pl : (backTo pos (starEach es X.env)).any (·.1) = false := by rfl) : PE X (.Call (.Name x p) (e :: es) [] pos) (tCallS sp (WE W) t) := by
  obtain ⟨f, fd, F, hm, kp, b⟩ := c
  exact pe_callS F (hr.mono le) gl hm kp b (fun σ => passAt tk σ) ha nd se pl
end
def raised (E : XK) (C : Addr) (v : V) (H : Hp) : Prop := ∀ dd, H dd = none → E (.ref C) (some dd) (upd H dd (.xd [("value", v)]))
end Cb
set_option Elab.async false
set_option linter.all false
set_option maxRecDepth 100000
set_option maxHeartbeats 4000000
/-! An exception made and held as a value. -/
namespace ExS
open PySem PySem.Spec PyProof.Rows L2
/-- an exception that is made, not raised: tracked from now on -/
def tMade (t : L2.St → Hp → XK → Prop) : TE := fun σ H Q => t σ H fun cls d H' => ∀ a, H' a = none → Q (.ref a) (upd H' a (ExK cls d a))
theorem pe_made {X : Cx} {e : Expr} {t : L2.St → Hp → XK → Prop} (h : PMk X e t) : PE X e (tMade t) := by
  refine ⟨fun pins s σ H Q I hq => ?_⟩
  refine wpAny_mono (h pins s σ H _ I hq) (fun u s1 hu => ?_) fun _ _ x => x
  obtain ⟨a, oe, vs, sI, H', cls, d, rfl, J, k, hne, ha, hz, hd, h1, na, os, ag, r, q⟩ := hu
  have J2 : Inv X pins σ H' ⟨sI.heap, s1.gens, s1.drawn, s1.toks, s1.os⟩ := ⟨J.ok, by rw [os]; exact J.os, ag, J.base, J.loc, J.cell, J.free, J.freeC, J.pin, J.hok, J.len⟩
  exact ⟨.ref a, _, J2.laidN (h' := s1.heap) (t' := s1.toks) k hne na (exK_ok ha hz hd), rfl, q a na⟩
/-- InvalidX(e) as a value -/
theorem pe_bill {X : Cx} {x : Str} {C : Addr} {e : Expr} {te : TE} {k : Nat} {p pos : Pos} (T : BillX X.prog X.K X.mg C x) (hr : Room (k + 1) X.A) (hg : Gl X x) (ha : PE X e te)
    (hdb : (x == ("__debug__" : Str)) = false := by decide) (he : starEach [e] X.env = (false, eval e X.env) :: starEach [] X.env := by rfl) (hpl : (backTo pos (starEach [] X.env)).any (·.1) = false := by rfl) :
    PE X (.Call (.Name x p) [e] [] pos) (tMade (tBill C te)) := pe_made (pmk_bill T hr hg ha hdb he hpl)
end ExS
set_option Elab.async false
set_option linter.all false
set_option maxRecDepth 100000
set_option maxHeartbeats 4000000
/-! An exception class called with keywords alone. -/
namespace ExS
open PySem PySem.Spec PySem.Calls PySem.HandSPX
section
variable {prog : Program} {w : World} {M : Model} {A : Around} {E : Value → Shared → Prop} {R : Result → Shared → Prop} {h : Heap} {g : Array GenState} {d : Drawn} {t : Nat} {os : OsState} {C N : Addr} {nm q : Str} {bs bm bmB : List Value} {hdct ab : Bool} {sn : List Str} {sub : List Value} {col : Option Bool} {dd : Option Addr} {k0 k1 k2 k3 k5 : Option Value} {B newId initId : String} {kw : List (Str × Value)}
theorem kw_new_check (F : ExcBaseFacts B newId initId bmB) (hT : ∀ X : String, bm.contains (.type X) = bmB.contains (.type X)) {Q : Unit → Shared → Prop}
    (hC : h.get? C = some (excClassObj nm q C N bs bm hdct sn sub ab col dd k0 k1 k2 k3 k5 newId)) (hq : Q () ⟨h, g, d, t, os⟩) : wpAny M A (checkBuiltinCall newId ⟨[.ref C], kw⟩) Q E ⟨h, g, d, t, os⟩ := by
  have hB : (Value.ref C :: bm).contains (.type B) = true := by rw [List.contains_cons, hT, F.hasB, Bool.or_true]
  have hs := F.noStar
  simp only [checkBuiltinCall, F.newKind, F.newSplit, F.newRow]
  repeat (first | refine wpAny_loadPart_at hC ?_ | (refine wpAny_isSubtype_exc hC ?_; rw [hB]) | refine wpAny_staticBase_exc hC ?_ | refine wpAny_madeBy_exc hC ?_ | simp only [bne_self_eq_false, Bool.false_eq_true, if_false] | wp_step)
  exact hq
theorem kw_new (F : ExcBaseFacts B newId initId bmB) (hT : ∀ X : String, bm.contains (.type X) = bmB.contains (.type X))
    (hC : h.get? C = some (excClassObj nm q C N bs bm hdct sn sub ab col dd k0 k1 k2 k3 k5 newId))
    (hq : R (.ok (.ret (.ref (h.objs.size + 1)))) ⟨(h.push (PySem.W.kdv_tup [])).push (excO C h.objs.size), g, d, t, os⟩) :
    codeAny (model prog w) A (.builtin newId ⟨[.ref C], kw⟩) R ⟨h, g, d, t, os⟩ := by
  have hends := F.ends
  have hB : (Value.ref C :: bm).contains (.type B) = true := by rw [List.contains_cons, hT, F.hasB, Bool.or_true]
  have hA : (Value.ref C :: bm).contains (.type "AttributeError") = false := by rw [List.contains_cons, hT, F.noAttr]; rfl
  have hN : (Value.ref C :: bm).contains (.type "NameError") = false := by rw [List.contains_cons, hT, F.noName]; rfl
  refine codeAny_builtinAt F.entry ?_
  unfold Builtin.«BaseException.__new__»
  refine wpAt_bind ?_
  show wpAt _ _ _ (stack >>= _) _ _ _
  refine wpAt_bind (wpAt_stack fun p below => wpAt_of_wpAny ?_)
  wp_walk
  refine wpAt_of_wpAny ?_
  rw [F.owner]
  repeat (first | with_reducible refine wpAny_madeHere_exc F.canon hC ?_ | with_reducible refine wpAny_loadPart_at hC ?_ | (with_reducible refine wpAny_isSubtype_exc hC ?_; first | rw [hB] | rw [hA] | rw [hN]) | wp_step)
  show R _ _
  rw [Heap.size_push]
  exact hq
theorem kw_make (F : ExcBaseFacts B newId initId bmB) (hT : ∀ X : String, bm.contains (.type X) = bmB.contains (.type X)) {fI : Addr} {Q : Fin → Shared → Prop}
    (hC : h.get? C = some (excClassObj nm q C N bs bm hdct sn sub ab col dd k0 k1 k2 k3 k5 newId))
    (hi : W.Looks (model prog w) h (typeLookup (.ref C) "__init__") (some (.ref fI))) (hb : ∀ self, W.Looks (model prog w) h (bindSpecial (.ref fI) self) (.ref fI, [self]))
    (hq : codeAny (model prog w) A (.call (.ref fI) ⟨[.ref (h.objs.size + 1)], kw⟩)
      (fun r s' => match r with | .ok (.ret v) => v = .none ∧ Q (.done (.ret (.ref (h.objs.size + 1)))) s' | .ok _ => False | .error e => E e s')
      ⟨(h.push (W.kdv_tup [])).push (excO C h.objs.size), g, d, t, os⟩) :
    wpAny (model prog w) A (Builtin.«type.__call__» ⟨[.ref C], kw⟩) Q E ⟨h, g, d, t, os⟩ := by
  repeat (first | with_reducible refine wpAny_loadPart_at hC ?_ | with_reducible refine wpAny_madeBy_exc hC ?_ | wp_step)
  refine codeAny_call_builtin_code (Code.quiet_builtin _ F.quiet) (kw_new_check F hT hC ?_)
  refine kw_new F hT hC ?_
  show wpAny _ _ _ _ _ _
  have k : ∀ b o, h.get? b = some o → ((h.push (W.kdv_tup [])).push (excO C h.objs.size)).get? b = some o := fun b o e => Heap.get?_push_of_some _ (Heap.get?_push_of_some _ e)
  have hC1 := k _ _ hC
  have hx : ((h.push (W.kdv_tup [])).push (excO C h.objs.size)).get? (h.objs.size + 1) = some (excO C h.objs.size) := by heap_get
  have hs : (Value.ref C :: bm).contains (.ref C) = true := by simp
  have i1 := hi.keeps k
  have b1 := (hb (.ref (h.objs.size + 1))).keeps k
  unfold isInstance
  repeat (first | with_reducible refine wpAny_loadPart_at hx ?_ | (with_reducible refine wpAny_isSubtype_exc hC1 ?_; rw [hs]) | wp_step)
  show wpAny _ _ (typeLookup (.ref C) _) _ _ _
  refine i1.at ?_
  refine wpAny_holding (wpAny_bind (b1.at ?_))
  refine wpAny_bind (wpAny_call (codeAny_mono hq fun r s' z => ?_))
  rcases r with e | (v | _ | _ | _) <;> first | exact z | exact z.elim | skip
  obtain ⟨rfl, z⟩ := z
  first
    | exact wpAny_pure (wpAny_pure z)
    | (wp_walk; exact z)
theorem kw_call_check {Q : Unit → Shared → Prop} (hC : h.get? C = some (excClassObj nm q C N bs bm hdct sn sub ab col dd k0 k1 k2 k3 k5 newId))
    (hq : Q () ⟨h, g, d, t, os⟩) : wpAny M A (checkBuiltinCall "type.__call__" ⟨[.ref C], kw⟩) Q E ⟨h, g, d, t, os⟩ := by
  have f3 := tc_sub
  have hY : (⟨h, g, d, t, os⟩ : Shared).TypeIs (.ref C) "type" := ⟨_, hC, rfl⟩
  simp only [checkBuiltinCall, tc_kind, tc_split]
  repeat (any_goals (first | assumption | with_reducible refine wpAny_loadPart_at hC ?_ | with_reducible refine wpAny_onRaise ?_ | with_reducible refine wpAny_map ?_ | wp_step))
theorem kw_call (F : ExcBaseFacts B newId initId bmB) (hT : ∀ X : String, bm.contains (.type X) = bmB.contains (.type X)) {fI : Addr}
    (hC : h.get? C = some (excClassObj nm q C N bs bm hdct sn sub ab col dd k0 k1 k2 k3 k5 newId))
    (hi : W.Looks (model prog w) h (typeLookup (.ref C) "__init__") (some (.ref fI))) (hb : ∀ self, W.Looks (model prog w) h (bindSpecial (.ref fI) self) (.ref fI, [self]))
    (hq : codeAny (model prog w) (A.under (.builtin "type.__call__" ⟨[.ref C], kw⟩)) (.call (.ref fI) ⟨[.ref (h.objs.size + 1)], kw⟩) (W.InitBack (h.objs.size + 1) R)
      ⟨(h.push (W.kdv_tup [])).push (excO C h.objs.size), g, d, t, os⟩) :
    codeAny (model prog w) A (.call (.ref C) ⟨[], kw⟩) R ⟨h, g, d, t, os⟩ := by
  have f1 := tc_lookup
  have f2 := tc_bind (.ref C)
  have hY : (⟨h, g, d, t, os⟩ : Shared).TypeIs (.ref C) "type" := ⟨_, hC, rfl⟩
  refine codeAny_of_tree ?_
  show wpAny _ _ (callAny (.ref C) _) _ _ _
  repeat (any_goals (first | assumption | with_reducible refine wpAny_loadPart_at hC ?_ | wp_step))
  refine ⟨rfl, ?_⟩
  refine codeAny_call_builtin_at (Code.quiet_builtin _ (by decide +kernel)) entry_typeCall (kw_call_check hC (kw_make F hT hC hi hb ?_))
  refine codeAny_mono hq fun r s' z => ?_
  rcases r with e | (v | _ | _ | _) <;> exact z
end
end ExS
set_option Elab.async false
set_option linter.all false
set_option maxRecDepth 100000
set_option maxHeartbeats 4000000
namespace ExS
open PySem PySem.Spec PyProof.Rows L2
theorem pmk_billK {X : Cx} {x : Str} {C : Addr} {kw : Keyword} {te : TE} {k : Nat} {p pos : Pos} (T : BillX X.prog X.K X.mg C x) (hr : Room (k + 1) X.A) (hg : Gl X x) (ha : PK X [kw] (tCons te tNil)) (hks : (backToKw pos (keywordEach [kw] X.env)).filterMap (·.1) = [("value" : Str)] := by rfl) (hall : (backToKw pos (keywordEach [kw] X.env)).all (·.1.isSome) = true := by rfl)
    (hdb : (x == ("__debug__" : Str)) = false := by decide) (hpl : ((backTo pos (starEach [] X.env)).any (·.1) || (backToKw pos (keywordEach [kw] X.env)).any (·.1.isNone)) = false := by rfl) :
    PMk X (.Call (.Name x p) [] [kw] pos) (tBill C te) := by
  intro pins s σ H Q I h
  obtain ⟨nm, qn, N, bs, bm, hdct, sn, sub, ab, col, dd, k0, k1, k2, k3, k5, hC, hbm⟩ := T.cls
  obtain ⟨fI, cdaI, ccI, DB, fB, cdaB, ccB, qI, qB, parI, parB, fdI, fdB, p0, p1, p2, p3, p4, p5, p6, p7, p8, r0, r1, r2, r3, r4, SI, SB, OI, ln, ln2, hpI, hpB, bI, bI0, bIk, bB, iC, tI⟩ := T.ex
  refine wpAny_Call_Name_kw (ld_glob I hg T.gC ?_ hdb)
  have h2 : tCons te tNil σ H (qBill C Q) := h
  refine PySem.W.callWith_KW0 (h₀ := X.base) I.ok.mod.kin T.kC hall (thn (ha.run pos pins s σ H (qBill C Q) I h2) fun us s1 ⟨vs, H1, I1, rr, q0⟩ => ⟨I1.kIn, ?_⟩) hpl
  rw [hks]
  obtain ⟨v, rfl, q1⟩ := q0
  obtain ⟨u, rfl, ru⟩ := vals1 rr
  obtain ⟨hp, g, dr, tk, os⟩ := s1
  obtain ⟨mb, gb, eb⟩ := I1.mod.blt
  have B : Bs X.K X.mg mb X.base := ⟨I1.mod.kin, I1.mod.glob, gb, T.sup, (eb "super" (by decide)).trans (by decide +kernel), I1.mod.nolimit⟩
  have hn : H1 (hp.objs.size + 1) = none := I1.hok.fresh (Nat.le_succ _)
  have kk : ∀ b o, hp.get? b = some o → ((hp.push (PySem.W.kdv_tup [])).push (PySem.HandSPX.excO C hp.objs.size)).get? b = some o := fun b o e => Heap.get?_push_of_some _ (Heap.get?_push_of_some _ e)
  have hget : ((hp.push (PySem.W.kdv_tup [])).push (PySem.HandSPX.excO C hp.objs.size)).get? (hp.objs.size + 1) = some (PySem.HandSPX.excO C hp.objs.size) := by heap_get
  have x0 : X.base.get? (hp.objs.size + 1) = none := by
    cases e : X.base.get? (hp.objs.size + 1) with
    | none => rfl
    | some o =>
      have := Heap.lt_size (I1.bk _ _ e)
      exact absurd this (by show ¬ hp.objs.size + 1 < hp.objs.size; omega)
  have hsz2 : ((hp.push (PySem.W.kdv_tup [])).push (PySem.HandSPX.excO C hp.objs.size)).objs.size = hp.objs.size + 2 := by rw [Heap.size_push, Heap.size_push]
  show wpAny _ _ (call (.ref C) [] [(("value" : Str), u)]) _ _ _
  refine wpAny_call (kw_call F.excBase_ValueError (fun Y => PySem.HandSPX.refsVE_contains Y bm hbm) (I1.kIn _ _ hC) (PySem.W.looks_findIn I1.kIn iC) (fun self => PySem.W.bind_fn I1.kIn self tI) ?_)
  have room : (X.A.under (.builtin "type.__call__" ⟨[.ref C], [(("value" : Str), u)]⟩)).depth + 1 < recursionLimit := by
    have := (hr.make C [] [(("value" : Str), u)]).dp
    omega
  refine call_init B (fun b o e => kk b o (I1.bk b o e)) x0 SI SB T.ns OI ln ln2 room hget hpI hpB (bIk _ _) (bB _) (fun h' tk' t1 dx k5' sz dne hx5 hn5 => ?_)
  refine ⟨rfl, ?_⟩
  rw [hsz2] at sz
  obtain ⟨G, g1, g2⟩ := restrict h' fun b => decide (b ≠ hp.objs.size + 1)
  have gk : ∀ b, b ≠ hp.objs.size + 1 → G.get? b = h'.get? b := fun b hb => g1 b (decide_eq_true hb)
  have ge : G.get? (hp.objs.size + 1) = none := g2 _ (by simp)
  have keepG : ∀ b o, hp.get? b = some o → G.get? b = some o := fun b o e => by
    have hb : b ≠ hp.objs.size + 1 := Nat.ne_of_lt (Nat.lt_succ_of_lt (Heap.lt_size e))
    rw [gk b hb]
    exact k5' b o hb (kk b o e)
  have hd1 : H1 dx = none := I1.hok.fresh (Nat.le_trans (Nat.le_add_right hp.objs.size 2) sz)
  have J : Inv X pins σ (upd H1 dx (.xd [("value", v)])) ⟨G, g, dr, tk', os⟩ := I1.laid (t' := tk') (a := dx) (o := .xd [("value", v)]) (h' := G) keepG (Nat.le_trans (Nat.le_add_right hp.objs.size 2) sz)
    ⟨_, hn5.at fun o y => (gk dx dne).trans y, relO_put (fs := []) (mA := fun _ => none) ru fun g => True.intro⟩
  refine ⟨hp.objs.size + 1, _, _, ⟨G, g, dr, tk', os⟩, upd H1 dx (.xd [("value", v)]), .ref C, some dx, rfl, J, fun b o e => ?_, ge, hx5, ⟨rfl, rfl⟩, rfl, rfl, ?_, rfl, I1.bare, raises_own T.exC T.tyC, q1 dx hd1⟩
  · by_cases hb : b = hp.objs.size + 1
    · rw [hb, ge] at e
      cases e
    · exact (gk b hb).symm.trans e
  · rw [upd_ne dne.symm]
    exact hn

/-- InvalidX() and InvalidX(value=e) as values -/
theorem pe_bill0 {X : Cx} {x : Str} {C : Addr} {k : Nat} {p pos : Pos} (T : BillX X.prog X.K X.mg C x) (hr : Room (k + 1) X.A) (hg : Gl X x) (hdb : (x == ("__debug__" : Str)) = false := by decide) :
    PE X (.Call (.Name x p) [] [] pos) (tMade (fun _ H Q => ∀ d, H d = none → Q (.ref C) (some d) (upd H d (.xd [("value", .non)])))) := pe_made (pmk_bill0 T hr hg hdb)
end ExS
set_option Elab.async false
set_option linter.all false
set_option maxRecDepth 100000
set_option maxHeartbeats 4000000
/-! facts of exception classes, from the written part -/
namespace Cb
open PySem PySem.Spec PyProof.Rows L2 ExS
theorem kit_ref {K : PySem.W.Frag} {t : Value} {C : Addr} {b : Bool} (ne : (t == Value.ref C) = false) (hdct : PySem.W.hasDictIn K C = true) (ht : PySem.W.typeIn K (.ref C) = some (.type "type")) (h : PySem.W.subIn K t (.ref C) = some b) : PySem.W.kitOne K t (.ref C) = some b := by
  obtain ⟨cd, hc, _⟩ := PySem.W.any_some hdct
  have e2 : ((PySem.W.clsIn K C).isSome && PySem.W.typeIn K (.ref C) == some (.type "type")) = true := by rw [hc, ht] <;> rfl
  show (if (t == Value.ref C) = true then some true else (if ((PySem.W.clsIn K C).isSome && PySem.W.typeIn K (.ref C) == some (.type "type")) = true then PySem.W.subIn K t (.ref C) else none)) = some b
  rw [if_neg (by rw [ne]; decide), if_pos e2]
  exact h
theorem kit_self {K : PySem.W.Frag} {t : Value} (e : (t == t) = true) : PySem.W.kitOne K t t = some true := by
  show (if (t == t) = true then some true else PySem.W.kitCls K t t) = some true
  rw [if_pos e]
theorem bill_mk {P : Program} {K : PySem.W.Frag} {mg : Str → Option Value} {h : Heap} {x : Str} (X : K.In h) (G : h.Ns mainGlobals mg) {T C fI cdaI ccI DB fB cdaB ccB N : Addr} {nm q qI qB nI nB fiI fiB : Str} {bs bm sub : List Value} {hdct ab : Bool} {sn : List Str} {col : Option Bool} {dd odI anI odB anB cdI cdB clI clB : Option Addr}
    {k0 k1 k2 k3 k5 : Option Value} {kVI docI pmI ctI dVB kVB docB pmB ctB cI cB uI uB : Value} {oslI oslB csI csB slI slB : Array (Option Value)} {vI vB : Array Value} {tI tB : Tok} {cT : Value} {dT : Option Addr} {itsT : Array Value} {nT : Nat} {slT : Array (Option Value)} {cdC cdD : ClassData} {parI parB : Arguments} {p0 p1 p2 p3 p4 p5 p6 p7 p8 r0 r1 r2 r3 r4 : Pos}
    (a : PySem.W.nsIn K mainGlobals x = some (some (.ref C)))
    (cls : K.lookup C = some (excClassObj nm q C N bs bm hdct sn sub ab col dd k0 k1 k2 k3 k5 "ValueError.__new__")) (ve : PySem.HandSPX.refsVE bm = true)
    (iC : PySem.W.findIn K (.ref C) "__init__" = some (some (.ref fI))) (tf : PySem.W.typeIn K (.ref fI) = some (.type "function"))
    (lI : K.lookup fI = some ⟨.type "function", odI, .func (PySem.W.ksFn nI qI parI [bSup p0 p1 p2 p3 p4, bVal p5 p6 p7 p8] scI (.ref T) kVI docI pmI anI (.ref cdaI) ctI ccI), oslI⟩) (coI : PySem.W.codeIn K (.ref cdaI) qI = true)
    (lcI : K.lookup cdaI = some ⟨cI, cdI, .fields vI, csI⟩) (vI2 : vI[2]? = some (.str fiI tI)) (feI : ((P.main.file : Str) == fiI) = true) (ceI : K.lookup ccI = some ⟨uI, clI, .cell (some (.ref C)), slI⟩) (clC : PySem.W.clsIn K C = some cdC)
    (iB : PySem.W.ks_superIn K C C "__init__" = some (some (.ref fB)))
    (lB : K.lookup fB = some ⟨.type "function", odB, .func (PySem.W.ksFn nB qB parB [bSup r0 r1 r2 r3 r4] scB dVB kVB docB pmB anB (.ref cdaB) ctB ccB), oslB⟩) (coB : PySem.W.codeIn K (.ref cdaB) qB = true)
    (lcB : K.lookup cdaB = some ⟨cB, cdB, .fields vB, csB⟩) (vB2 : vB[2]? = some (.str fiB tB)) (feB : ((P.main.file : Str) == fiB) = true) (ceB : K.lookup ccB = some ⟨uB, clB, .cell (some (.ref DB)), slB⟩) (clD : PySem.W.clsIn K DB = some cdD)
    (tp : PySem.W.nsIn K cStatics "thirdparty.any" = some none) (sB : PySem.W.mroIn K C (.ref DB) = some true) (sC : PySem.W.mroIn K C (.ref C) = some true) (iV : PySem.W.ks_superIn K C DB "__init__" = some (some (.builtin "ValueError.__init__"))) (sV : PySem.W.subIn K (.ref C) (.type "ValueError") = some true)
    (fn : PySem.W.fnIn K fB = true) (mv : PySem.HandSPX.refsVE cdC.mro = true) (md : cdC.hasDict = true) (sa : PySem.W.findIn K (.ref C) "__setattr__" = some (some (.builtin "object.__setattr__"))) (nV : PySem.W.findIn K (.ref C) "value" = some none)
    (ln : Line p0 p1 p2 p3) (ln2 : Line r0 r1 r2 r3) (hI : (parI.posonlyargs ++ parI.args).head?.map (·.arg) = some ("self" : Str)) (hB : (parB.posonlyargs ++ parB.args).head?.map (·.arg) = some ("self" : Str))
    (lT : K.lookup T = some ⟨cT, dT, .seq itsT nT, slT⟩) (bI : ∀ (a : Addr) (v : Value), ∃ k, bindArgs (PySem.W.ksFn nI qI parI [bSup p0 p1 p2 p3 p4, bVal p5 p6 p7 p8] scI (.ref T) kVI docI pmI anI (.ref cdaI) ctI ccI) ⟨[.ref a, v], []⟩ = seqItems? (.ref T) >>= k ∧ k (some itsT) = pure [(("self" : Str), Value.ref a), (("value" : Str), v)])
    (bI0 : ∀ a : Addr, ∃ k, bindArgs (PySem.W.ksFn nI qI parI [bSup p0 p1 p2 p3 p4, bVal p5 p6 p7 p8] scI (.ref T) kVI docI pmI anI (.ref cdaI) ctI ccI) ⟨[.ref a], []⟩ = seqItems? (.ref T) >>= k ∧ k (some itsT) = pure [(("self" : Str), Value.ref a), (("value" : Str), Value.none)])
    (bIk : ∀ (a : Addr) (v : Value), ∃ k, bindArgs (PySem.W.ksFn nI qI parI [bSup p0 p1 p2 p3 p4, bVal p5 p6 p7 p8] scI (.ref T) kVI docI pmI anI (.ref cdaI) ctI ccI) ⟨[.ref a], [(("value" : Str), v)]⟩ = seqItems? (.ref T) >>= k ∧ k (some itsT) = pure [(("self" : Str), Value.ref a), (("value" : Str), v)])
    (bB : ∀ a : Addr, bindArgs (PySem.W.ksFn nB qB parB [bSup r0 r1 r2 r3 r4] scB dVB kVB docB pmB anB (.ref cdaB) ctB ccB) ⟨[.ref a], []⟩ = pure [(("self" : Str), Value.ref a)])
    (ns : NoSup P) (su : PySem.W.nsIn K mainGlobals "super" = some none) (kC : PySem.W.keepIn K (.ref C) = true) (exC : PySem.W.subIn K (.ref C) (.type "BaseException") = some true) (tyC : PySem.W.typeIn K (.ref C) = some (.type "type")) : BillX P K mg C x where
  ex := ⟨fI, cdaI, ccI, DB, fB, cdaB, ccB, qI, qB, parI, parB, _, _, p0, p1, p2, p3, p4, p5, p6, p7, p8, r0, r1, r2, r3, r4,
    ⟨⟨nI, .ref T, kVI, docI, pmI, ctI, odI, anI, oslI, rfl, lI⟩, coI, ⟨cI, cdI, vI, csI, fiI, tI, lcI, vI2, feI⟩, ⟨uI, clI, slI, ceI⟩, ⟨cdC, clC⟩⟩,
    ⟨⟨nB, dVB, kVB, docB, pmB, ctB, odB, anB, oslB, rfl, lB⟩, coB, ⟨cB, cdB, vB, csB, fiB, tB, lcB, vB2, feB⟩, ⟨uB, clB, slB, ceB⟩, ⟨cdD, clD⟩⟩,
    ⟨⟨⟨nm, q, N, bs, bm, hdct, sn, sub, ab, col, dd, k0, k1, k2, k3, k5, cls⟩, ⟨cdC, clC⟩, tp, sB, iV, sV⟩, iB, sC, fn, ⟨cdC, clC, mv, md⟩, sa, nV⟩, ln, ln2, hI, hB, fun a v s hs => (bI a v).elim fun k h => BindsTo.of_defaults rfl (hs _ _ lT) rfl h.1 h.2, fun a s hs => (bI0 a).elim fun k h => BindsTo.of_defaults rfl (hs _ _ lT) rfl h.1 h.2, fun a v s hs => (bIk a v).elim fun k h => BindsTo.of_defaults rfl (hs _ _ lT) rfl h.1 h.2, bB, iC, tf⟩
  cls := ⟨nm, q, N, bs, bm, hdct, sn, sub, ab, col, dd, k0, k1, k2, k3, k5, cls, ve⟩
  ns := ns
  sup := PySem.W.mg_none_of X G su
  gC := PySem.W.mg_of X G a
  kC := kC
  exC := exC
  tyC := tyC
end Cb
set_option Elab.async false
set_option linter.all false
set_option maxRecDepth 100000
set_option maxHeartbeats 4000000
namespace Cb
open PySem PySem.Spec PyProof.Rows L2
def topS (i : Nat) : Stmt := PySem.Challenge.pw_cellbills_k05_whole_constructors_reached.main.body.getD i (.Pass ⟨0, 0, 0, 0⟩)
/-! ### words -/
abbrev s_is_letter : Stmt := topS 7
theorem sc_is_letter : FnScope ["sign"] ["sign"] (defScope s_is_letter) := ⟨rfl, rfl, rfl, by decide +kernel, rfl, by decide +kernel, by decide +kernel⟩
abbrev s_is_digit : Stmt := topS 8
theorem sc_is_digit : FnScope ["sign"] ["sign"] (defScope s_is_digit) := ⟨rfl, rfl, rfl, by decide +kernel, rfl, by decide +kernel, by decide +kernel⟩
abbrev s_is_reserved : Stmt := topS 9
theorem sc_is_reserved : FnScope ["text"] ["text"] (defScope s_is_reserved) := ⟨rfl, rfl, rfl, by decide +kernel, rfl, by decide +kernel, by decide +kernel⟩
abbrev s_is_word : Stmt := topS 10
theorem sc_is_word : FnScope ["value", "sign"] ["value"] (defScope s_is_word) := ⟨rfl, rfl, rfl, by decide +kernel, rfl, by decide +kernel, by decide +kernel⟩
abbrev s_are_strings : Stmt := topS 11
theorem sc_are_strings : FnScope ["values", "value"] ["values"] (defScope s_are_strings) := ⟨rfl, rfl, rfl, by decide +kernel, rfl, by decide +kernel, by decide +kernel⟩
def resL : List Str := ["calls", "catch", "drop", "else", "end", "fail", "flag", "fun", "go", "if", "in", "keep", "kind", "let", "match", "no", "not", "num", "raise", "take", "then", "to", "try", "use", "yes"]
def isRes (z : Str) : Bool := decide (z ∈ resL)
structure TWord (K : PySem.W.Frag) (w : World) (mg : Str → Option Value) : Prop where
  d_is_letter : Has K mg "is_letter" s_is_letter ["sign"]
  d_is_digit : Has K mg "is_digit" s_is_digit ["sign"]
  d_is_reserved : Has K mg "is_reserved" s_is_reserved ["text"]
  d_is_word : Has K mg "is_word" s_is_word ["value"]
  d_are_strings : Has K mg "are_strings" s_are_strings ["values"]
  b_isinstance : mg "isinstance" = none
  b_str : mg "str" = none
  b_list : mg "list" = none
  b_tuple : mg "tuple" = none
  b_len : mg "len" = none
  b_all : mg "all" = none
  g_MOST_SIGNS : ∃ t, mg "MOST_SIGNS" = some (.int 30 t)
  g_RESERVED : ∃ (d : Addr) (es : Array DictEntry) (n : Nat), mg "RESERVED" = some (.ref d) ∧ KDict K w d es n ∧ ∀ z : Str, ∃ r : Option Value, PySem.W.nsIn K d z = some r ∧ r.isSome = isRes z
section
variable {P : Program} {w : World} {K : PySem.W.Frag} {mg : Str → Option Value} {base : Heap}
def sp_is_letter : Sp := fun vs H Q _ => ∃ c : Nat, vs = [.str ⟨#[c]⟩] ∧ Q (.bl (lowC c)) H
theorem c_is_letter (T : TWord K w mg) : Says P w K mg base 1 "is_letter" ["sign"] sp_is_letter := by
  refine says T.d_is_letter sc_is_letter (fun vs H Q E h => ?_) (fun f cdv A outer s H vs Q E hr h => ?_)
  · obtain ⟨_, rfl, _⟩ := h; rfl
  · refine ⟨_, (pss_one (ps_ret (pe_chain op_le_str op_le_str pe_str (pv 0) pe_str))), ?_⟩
    obtain ⟨c, rfl, q⟩ := h
    unfold lowC at q
    refine ⟨_, rfl, _, _, rfl, rfl, _, rfl, ?_⟩
    refine ifNot (fun h => ?_) (fun h => ?_)
    · have h1 : 97 ≤ c := Nat.le_of_not_lt fun z => h ((lt1 97 c).mpr z)
      rw [decide_eq_true h1, Bool.true_and] at q
      refine ⟨_, _, rfl, rfl, ?_⟩
      by_cases h2 : c ≤ 122
      · rw [decide_eq_true h2] at q
        have e : decide (([122] : List Nat) < [c]) = false := decide_eq_false fun z => Nat.not_lt.mpr h2 ((lt1 c 122).mp z)
        show Q (.bl (!decide (([122] : List Nat) < [c]))) H
        rw [e]
        exact q
      · rw [decide_eq_false h2] at q
        have e : decide (([122] : List Nat) < [c]) = true := decide_eq_true ((lt1 c 122).mpr (Nat.lt_of_not_le h2))
        show Q (.bl (!decide (([122] : List Nat) < [c]))) H
        rw [e]
        exact q
    · have h1 : ¬ 97 ≤ c := Nat.not_le.mpr ((lt1 97 c).mp h)
      rw [decide_eq_false h1, Bool.false_and] at q
      exact q
def sp_is_digit : Sp := fun vs H Q _ => ∃ c : Nat, vs = [.str ⟨#[c]⟩] ∧ Q (.bl (digC c)) H
theorem c_is_digit (T : TWord K w mg) : Says P w K mg base 1 "is_digit" ["sign"] sp_is_digit := by
  refine says T.d_is_digit sc_is_digit (fun vs H Q E h => ?_) (fun f cdv A outer s H vs Q E hr h => ?_)
  · obtain ⟨_, rfl, _⟩ := h; rfl
  · refine ⟨_, (pss_one (ps_ret (pe_chain op_le_str op_le_str pe_str (pv 0) pe_str))), ?_⟩
    obtain ⟨c, rfl, q⟩ := h
    unfold digC at q
    refine ⟨_, rfl, _, _, rfl, rfl, _, rfl, ?_⟩
    refine ifNot (fun h => ?_) (fun h => ?_)
    · have h1 : 48 ≤ c := Nat.le_of_not_lt fun z => h ((lt1 48 c).mpr z)
      rw [decide_eq_true h1, Bool.true_and] at q
      refine ⟨_, _, rfl, rfl, ?_⟩
      by_cases h2 : c ≤ 57
      · rw [decide_eq_true h2] at q
        have e : decide (([57] : List Nat) < [c]) = false := decide_eq_false fun z => Nat.not_lt.mpr h2 ((lt1 c 57).mp z)
        show Q (.bl (!decide (([57] : List Nat) < [c]))) H
        rw [e]
        exact q
      · rw [decide_eq_false h2] at q
        have e : decide (([57] : List Nat) < [c]) = true := decide_eq_true ((lt1 c 57).mpr (Nat.lt_of_not_le h2))
        show Q (.bl (!decide (([57] : List Nat) < [c]))) H
        rw [e]
        exact q
    · have h1 : ¬ 48 ≤ c := Nat.not_le.mpr ((lt1 48 c).mp h)
      rw [decide_eq_false h1, Bool.false_and] at q
      exact q
def sp_is_reserved : Sp := fun vs H Q _ => ∃ z : Str, vs = [.str z] ∧ Q (.bl (isRes z)) H
theorem c_is_reserved (T : TWord K w mg) : Says P w K mg base 1 "is_reserved" ["text"] sp_is_reserved := by
  obtain ⟨d, es, n, g, D, all⟩ := T.g_RESERVED
  refine says T.d_is_reserved sc_is_reserved (fun vs H Q E h => ?_) (fun f cdv A outer s H vs Q E hr h => ?_)
  · obtain ⟨_, rfl, _⟩ := h; rfl
  · refine ⟨_, (pss_one (ps_ret (pe_cmpR (op_in_kd D) (pv 0) (pe_glob (v := .ref d) rfl g rfl) (by rfl)))), ?_⟩
    obtain ⟨z, rfl, q⟩ := h
    obtain ⟨r, e, er⟩ := all z
    rw [← er] at q
    exact ⟨_, rfl, _, _, rfl, rfl, e, q⟩
/-- a word, of its signs -/
def headLow (z : Str) : Bool := match z.cps[0]? with
  | some c => lowC c
  | none => false
def isWordS (z : Str) : Bool := (decide (1 ≤ z.length) && decide (z.length ≤ 30)) && (headLow z && !isRes z) && z.cps.toList.all fun c => lowC c || digC c
def isWord : PyData → Bool
  | .str z => isWordS z
  | _ => false
def sp_is_word : Sp := fun vs H Q _ => ∃ (v : V) (d : PyData), vs = [v] ∧ DT H v d ∧ OKd d ∧ ∀ H', Same H H' → Q (.bl (isWord d)) H'
theorem c_is_word (T : TWord K w mg) : Says P w K mg base 2 "is_word" ["value"] sp_is_word := by
  obtain ⟨tm, gm⟩ := T.g_MOST_SIGNS
  refine says T.d_is_word sc_is_word (fun vs H Q E h => ?_) (fun f cdv A outer s H vs Q E hr h => ?_)
  · obtain ⟨_, _, rfl, _⟩ := h; rfl
  · refine ⟨_, (pss_cons (ps_if (PW.pt (pw_or (pt_not (pt_val (pe_callB call_isi (by rfl) T.b_isinstance (by decide +kernel) (pa_cons (pv 0) (pa_cons (pe_bltn (v := .ty "str") (by rfl) T.b_str (by decide +kernel) rfl) pa_nil))))) (pw_or1 (pt_not (pt_chain op_le op_le pe_int (pe_callB call_len_str (by rfl) T.b_len (by decide +kernel) (pa_cons (pv 0) pa_nil)) (pe_glob (v := .int 30) rfl gm ⟨_, rfl⟩))))))
        (pss_one (ps_ret pe_bl))
        pss_nil)
      (pss_cons (ps_if (PW.pt (pw_or (pt_not (pt_val (pe_s (c_is_letter T) hr (pa_cons (pe_item_str (pv 0) pe_int (fun _ _ => rfl)) pa_nil)))) (pw_or1 (pt_val (pe_s (c_is_reserved T) hr (pa_cons (pv 0) pa_nil))))))
        (pss_one (ps_ret pe_bl))
        pss_nil)
      (pss_one (ps_ret (pe_callB (cr_all rfl) (by rfl) T.b_all (by decide +kernel) (pa_cons (pe_lc (own := [("sign", 1)]) (g := gName 1) (tt := tYes) rfl sc_is_word.nd (pi_str (pv 0)) (blkOk_by (N := ["value", "sign"]) (sc := defScope s_is_word) (own := [("sign", 1)]) (by decide +kernel)) (fun _ _ _ _ _ => pg_name (i := 1) sc_is_word.nd rfl (Or.inl rfl)) (fun _ _ _ _ _ => pts_nil) (fun _ _ _ _ _ => (pe_or (pe_s (c_is_letter T) hr (pa_cons (pv 1) pa_nil)) (pe_one (pe_s (c_is_digit T) hr (pa_cons (pv 1) pa_nil)))))) pa_nil)))))), ?_⟩
    obtain ⟨v, d, rfl, hd, ok, q⟩ := h
    refine ⟨_, rfl, _, _, _, _, _, rfl, .ty _, hd.ty, kit_ty (kit_s d), _, rfl, ?_⟩
    cases d with
    | str z =>
      cases hd
      have lz := ok.len_s
      have q1 := q
      show if (!true) = true then _ else _
      refine iteF ?_
      refine ⟨_, rfl, _, rfl, Nat.le_trans lz (by decide), ?_⟩
      refine ⟨_, _, rfl, rfl, _, rfl, ?_⟩
      have back : (decide (1 ≤ z.length) && decide (z.length ≤ 30)) = false → ∀ H', Same H H' → Q (.bl false) H' := fun e H' s' => by
        have q2 : Q (.bl (isWordS z)) H' := q H' s'
        unfold isWordS at q2
        rw [e] at q2
        simpa using q2
      refine ifB (fun h1 => ?_) (fun h1 => ?_)
      · have l1 : 1 ≤ z.length := by
          have := of_decide_eq_true h1
          omega
        refine ⟨_, _, rfl, rfl, _, rfl, ?_⟩
        refine ifB (fun h2 => ?_) (fun h2 => ?_)
        · have n2 : ¬ z.length ≤ 30 := fun y => by
            have : decide (((z.length : Nat) : Int) ≤ 30) = true := decide_eq_true (by omega)
            rw [this] at h2
            cases h2
          exact back (by rw [decide_eq_false n2, Bool.and_false]) _ (Same.refl _)
        · have l2 : z.length ≤ 30 := by
            cases z2 : decide (((z.length : Nat) : Int) ≤ 30) with
            | false => 
              rw [z2] at h2
              cases h2
            | true =>
              have := of_decide_eq_true z2
              omega
          have hc : ∃ c, z.cps[0]? = some c := ⟨z.cps[0]'l1, Array.getElem?_eq_getElem l1⟩
          obtain ⟨c, hc⟩ := hc
          refine ⟨_, rfl, _, _, c, rfl, rfl, by decide, by decide, by omega, hc, ?_⟩
          refine ⟨c, rfl, _, rfl, ?_⟩
          have hl : headLow z = lowC c := by
            unfold headLow
            rw [hc]
          have q3 : ∀ H', Same H H' → Q (.bl ((lowC c && !isRes z) && z.cps.toList.all fun c => lowC c || digC c)) H' := fun H' s' => by
            have q2 : Q (.bl (isWordS z)) H' := q H' s'
            unfold isWordS at q2
            rw [decide_eq_true l1, decide_eq_true l2, hl] at q2
            simpa using q2
          refine ifB (fun h3 => ?_) (fun h3 => ?_)
          · have e : lowC c = false := by simpa using h3
            have q4 := q3 H (Same.refl _)
            rw [e] at q4
            exact q4
          · have e : lowC c = true := by simpa using h3
            refine ⟨_, rfl, _, rfl, _, rfl, ?_⟩
            refine ifB (fun h4 => ?_) (fun h4 => ?_)
            · have q4 := q3 H (Same.refl _)
              rw [e, h4] at q4
              exact q4
            · refine ⟨_, rfl, _, rfl, fun D hD => lc_mapW (walk_str (z := z)) (ys := (z.cps.toList.map fun c => V.bl (lowC c || digC c))) (fun _ _ => trivial) (fun j H x H' y => y.1) hD (by simp) (by show z.cps.size < 1000; have : z.cps.size = z.length := rfl; omega) ?_ ?_⟩
              · rintro j x y H' Q' s1 ⟨_, c2, hc2, rfl⟩ hy q'
                have hy2 : y = .bl (lowC c2 || digC c2) := by
                  rw [List.getElem?_map, Array.getElem?_toList, hc2] at hy
                  exact (Option.some.inj hy).symm
                subst hy2
                refine ⟨_, rfl, c2, rfl, _, rfl, ?_⟩
                cases e2 : lowC c2 with
                | true =>
                  rw [e2] at q'
                  exact iteT (q' _ (Same.refl _))
                | false =>
                  rw [e2] at q'
                  exact iteF ⟨_, rfl, c2, rfl, q' _ (Same.refl _)⟩
              · intro H' s1 hd2
                refine ⟨_, (z.cps.toList.map fun c => lowC c || digC c), rfl, ?_, ?_⟩
                · rw [List.map_map]
                  exact SqL.of hd2
                · have q4 := q3 H' s1
                  rw [e, h4] at q4
                  rw [List.all_map]
                  simpa using q4
      · have n1 : ¬ 1 ≤ z.length := fun y => by
          have : decide ((1 : Int) ≤ ((z.length : Nat) : Int)) = true := decide_eq_true (by omega)
          rw [this] at h1
          cases h1
        refine ⟨_, rfl, ?_⟩
        exact back (by rw [decide_eq_false n1, Bool.false_and]) _ (Same.refl _)
    | none => exact iteT (q _ (Same.refl _))
    | bool _ => exact iteT (q _ (Same.refl _))
    | int _ => exact iteT (q _ (Same.refl _))
    | list _ => exact iteT (q _ (Same.refl _))
    | tuple _ => exact iteT (q _ (Same.refl _))
    | dict _ => exact iteT (q _ (Same.refl _))
/-- all strings, of a list -/
def sp_are_strings : Sp := fun vs H Q _ => ∃ (p : Addr) (xs : List V) (ds : List PyData), vs = [.ref p] ∧ H p = some (.lst xs) ∧ DTs H xs ds ∧ xs.length < 1000 ∧ ∀ H', Same H H' → Q (.bl (ds.all isS)) H'
theorem c_are_strings (T : TWord K w mg) : Says P w K mg base 1 "are_strings" ["values"] sp_are_strings := by
  refine says T.d_are_strings sc_are_strings (fun vs H Q E h => ?_) (fun f cdv A outer s H vs Q E hr h => ?_)
  · obtain ⟨_, _, _, rfl, _⟩ := h; rfl
  · refine ⟨_, (pss_one (ps_ret (pe_callB (cr_all rfl) (by rfl) T.b_all (by decide +kernel) (pa_cons (pe_lc (own := [("value", 1)]) (g := gName 1) (tt := tYes) rfl sc_are_strings.nd (pi_list (pv 0)) (blkOk_by (N := ["values", "value"]) (sc := defScope s_are_strings) (own := [("value", 1)]) (by decide +kernel)) (fun _ _ _ _ _ => pg_name (i := 1) sc_are_strings.nd rfl (Or.inl rfl)) (fun _ _ _ _ _ => pts_nil) (fun _ _ _ _ _ => (pe_callB (id := "isinstance") (r := rIsi K) call_isi (by rfl) T.b_isinstance (by decide +kernel) (pa_cons (pv 1) (pa_cons (pe_bltn (v := .ty "str") (by rfl) T.b_str (by decide +kernel) rfl) pa_nil))))) pa_nil)))), ?_⟩
    obtain ⟨p, xs, ds, rfl, hp, hds, small, q⟩ := h
    refine ⟨_, rfl, _, rfl, ⟨_, SqL.of hp⟩, fun D hD => lc_mapW (walk_list (K := K) (a := p) (xs := xs)) (ys := ds.map fun d => V.bl (isS d)) (fun H' s' => s'.seq (SqL.of hp)) (fun j H x H' y => y.1) hD (by rw [List.length_map, hds.length]) small ?_ ?_⟩
    · rintro j x y H' Q' s1 ⟨_, hx⟩ hy q'
      rw [List.getElem?_map] at hy
      cases hdj : ds[j]? with
      | none =>
        rw [hdj] at hy
        cases hy
      | some d =>
        rw [hdj] at hy
        obtain rfl : V.bl (isS d) = y := Option.some.inj hy
        have hx2 : DT H' x d := (hds.get hx hdj).same s1 d
        exact ⟨x, rfl, _, _, _, _, _, rfl, .ty _, hx2.ty, kit_ty (kit_s d), q' _ (Same.refl _)⟩
    · intro H' s1 hd2
      refine ⟨_, ds.map isS, rfl, ?_, ?_⟩
      · rw [List.map_map]
        exact SqL.of hd2
      · have q4 := q H' s1
        rw [List.all_map]
        exact q4
end
end Cb
set_option Elab.async false
set_option linter.all false
set_option maxRecDepth 100000
set_option maxHeartbeats 4000000
namespace Cb
open PySem PySem.Spec PyProof.Rows L2
abbrev s_is_kind_list : Stmt := topS 16
theorem sc_is_kind_list : FnScope ["value"] ["value"] (defScope s_is_kind_list) := ⟨rfl, rfl, rfl, by decide +kernel, rfl, by decide +kernel, by decide +kernel⟩
abbrev s_is_maker : Stmt := topS 17
theorem sc_is_maker : FnScope ["value"] ["value"] (defScope s_is_maker) := ⟨rfl, rfl, rfl, by decide +kernel, rfl, by decide +kernel, by decide +kernel⟩
abbrev s_is_choice_form : Stmt := topS 18
theorem sc_is_choice_form : FnScope ["value", "name", "makers", "maker"] ["value"] (defScope s_is_choice_form) := ⟨rfl, rfl, rfl, by decide +kernel, rfl, by decide +kernel, by decide +kernel⟩
abbrev s_is_calls_form : Stmt := topS 19
theorem sc_is_calls_form : FnScope ["value", "name", "wanted", "answer"] ["value"] (defScope s_is_calls_form) := ⟨rfl, rfl, rfl, by decide +kernel, rfl, by decide +kernel, by decide +kernel⟩
abbrev s_is_declaration_form : Stmt := topS 20
theorem sc_is_declaration_form : FnScope ["value"] ["value"] (defScope s_is_declaration_form) := ⟨rfl, rfl, rfl, by decide +kernel, rfl, by decide +kernel, by decide +kernel⟩
abbrev s_maker_names : Stmt := topS 21
theorem sc_maker_names : FnScope ["declaration", "maker"] ["declaration"] (defScope s_maker_names) := ⟨rfl, rfl, rfl, by decide +kernel, rfl, by decide +kernel, by decide +kernel⟩
abbrev s_kinds_within : Stmt := topS 22
theorem sc_kinds_within : FnScope ["declaration", "maker", "kind"] ["declaration"] (defScope s_kinds_within) := ⟨rfl, rfl, rfl, by decide +kernel, rfl, by decide +kernel, by decide +kernel⟩
abbrev s_wrong_in_declaration : Stmt := topS 23
theorem sc_wrong_in_declaration : FnScope ["declaration", "names", "makers", "own", "maker", "word"] ["declaration", "names", "makers"] (defScope s_wrong_in_declaration) := ⟨rfl, rfl, rfl, by decide +kernel, rfl, by decide +kernel, by decide +kernel⟩
abbrev s_wrong_declaration : Stmt := topS 24
theorem sc_wrong_declaration : FnScope ["kinds", "names", "makers", "number", "declaration", "why", "kind"] ["kinds"] (defScope s_wrong_declaration) := ⟨rfl, rfl, rfl, by decide +kernel, rfl, by decide +kernel, by decide +kernel⟩
abbrev s_is_kinds : Stmt := topS 25
theorem sc_is_kinds : FnScope ["value"] ["value"] (defScope s_is_kinds) := ⟨rfl, rfl, rfl, by decide +kernel, rfl, by decide +kernel, by decide +kernel⟩
structure TKind (K : PySem.W.Frag) (w : World) (mg : Str → Option Value) : Prop where
  tw : TWord K w mg
  d_is_kind_list : Has K mg "is_kind_list" s_is_kind_list ["value"]
  d_is_maker : Has K mg "is_maker" s_is_maker ["value"]
  d_is_choice_form : Has K mg "is_choice_form" s_is_choice_form ["value"]
  d_is_calls_form : Has K mg "is_calls_form" s_is_calls_form ["value"]
  d_is_declaration_form : Has K mg "is_declaration_form" s_is_declaration_form ["value"]
  d_maker_names : Has K mg "maker_names" s_maker_names ["declaration"]
  d_kinds_within : Has K mg "kinds_within" s_kinds_within ["declaration"]
  d_wrong_in_declaration : Has K mg "wrong_in_declaration" s_wrong_in_declaration ["declaration", "names", "makers"]
  d_wrong_declaration : Has K mg "wrong_declaration" s_wrong_declaration ["kinds"]
  d_is_kinds : Has K mg "is_kinds" s_is_kinds ["value"]
  k_is_kinds : HasK K mg "is_kinds" s_is_kinds ["value"] ["value"] (fun l => l)
  b_enumerate : mg "enumerate" = none
  g_MOST_KINDS : ∃ t, mg "MOST_KINDS" = some (.int 12 t)
  g_MOST_MAKERS : ∃ t, mg "MOST_MAKERS" = some (.int 8 t)
  g_MOST_PARTS : ∃ t, mg "MOST_PARTS" = some (.int 4 t)
section
variable {P : Program} {w : World} {K : PySem.W.Frag} {mg : Str → Option Value} {base : Heap}
theorem ifNeI {i j : Int} {A B : Prop} (y : ¬ i = j → A) (n : i = j → B) : if (!decide (V.int i = V.int j)) = true then A else B := by
  by_cases h : i = j
  · rw [decide_eq_true (congrArg V.int h)]
    exact iteF (n h)
  · rw [decide_eq_false (fun e => h (V.int.inj e))]
    exact iteT (y h)
theorem ifEqI {i j : Int} {A B : Prop} (y : i = j → A) (n : ¬ i = j → B) : if decide (V.int i = V.int j) = true then A else B := by
  by_cases h : i = j
  · rw [decide_eq_true (congrArg V.int h)]
    exact iteT (y h)
  · rw [decide_eq_false (fun e => h (V.int.inj e))]
    exact iteF (n h)
theorem ifLe {i j : Int} {A B : Prop} (y : i ≤ j → A) (n : ¬ i ≤ j → B) : if decide (i ≤ j) = true then A else B := by
  by_cases h : i ≤ j
  · rw [decide_eq_true h]
    exact iteT (y h)
  · rw [decide_eq_false h]
    exact iteF (n h)
def isKindList : PyData → Bool
  | .list ds => decide (ds.length ≤ 4) && ds.all isS
  | _ => false
def sp_data (f : PyData → Bool) : Sp := fun vs H Q _ => ∃ (v : V) (d : PyData), vs = [v] ∧ DT H v d ∧ OKd d ∧ ∀ H', Same H H' → Q (.bl (f d)) H'
theorem len_data {f : PyData → Bool} {x : Str} : ∀ vs H Q E, sp_data f vs H Q E → vs.length = ([x] : List Str).length := fun vs H Q E h => by
  obtain ⟨_, _, rfl, _⟩ := h; rfl
theorem c_is_kind_list (T : TKind K w mg) : Says P w K mg base 2 "is_kind_list" ["value"] (sp_data isKindList) := by
  obtain ⟨tm, gm⟩ := T.g_MOST_PARTS
  refine says T.d_is_kind_list sc_is_kind_list len_data (fun f cdv A outer s H vs Q E hr h => ?_)
  refine ⟨_, (pss_one (ps_ret (pe_and (pe_callB call_isi (by rfl) T.tw.b_isinstance (by decide +kernel) (pa_cons (pv 0) (pa_cons (pe_bltn (v := .ty "list") (by rfl) T.tw.b_list (by decide +kernel) rfl) pa_nil))) (pe_and (pe_cmpR op_le (pe_callB call_len_seq (by rfl) T.tw.b_len (by decide +kernel) (pa_cons (pv 0) pa_nil)) (pe_glob (v := .int 4) rfl gm ⟨_, rfl⟩) (nomark _)) (pe_one (pe_s (c_are_strings T.tw) hr (pa_cons (pv 0) pa_nil))))))), ?_⟩
  obtain ⟨v, d, rfl, hd, ok, q⟩ := h
  refine ⟨_, rfl, _, _, _, _, _, rfl, .ty _, hd.ty, kit_ty (kit_l d), _, rfl, ?_⟩
  cases d with
  | list ds =>
    have small := ok.len_l
    cases hd with
    | @lst p xs _ e r =>
      have lx := r.length
      refine iteT ?_
      refine ⟨_, rfl, p, xs, rfl, .inl (SqL.of e), _, _, rfl, rfl, _, rfl, ifLe (fun h => ?_) (fun h => ?_)⟩
      · refine ⟨_, rfl, p, xs, ds, rfl, e, r, by omega, fun H' s' => ?_⟩
        have q2 : Q (.bl (decide (ds.length ≤ 4) && ds.all isS)) H' := q H' s'
        rw [decide_eq_true (show ds.length ≤ 4 by omega)] at q2
        exact q2
      · have q2 : Q (.bl (decide (ds.length ≤ 4) && ds.all isS)) H := q H (Same.refl _)
        rw [decide_eq_false (show ¬ ds.length ≤ 4 by omega)] at q2
        exact q2
  | none => exact iteF (q _ (Same.refl _))
  | bool _ => exact iteF (q _ (Same.refl _))
  | int _ => exact iteF (q _ (Same.refl _))
  | str _ => exact iteF (q _ (Same.refl _))
  | tuple _ => exact iteF (q _ (Same.refl _))
  | dict _ => exact iteF (q _ (Same.refl _))
def isMaker : PyData → Bool
  | .tuple [n, k] => isS n && isKindList k
  | _ => false
theorem isMaker_len {ds : List PyData} (h : ¬ ds.length = 2) : isMaker (.tuple ds) = false := by
  match ds, h with
  | [], _ => rfl
  | [_], _ => rfl
  | [_, _], h => exact absurd rfl h
  | _ :: _ :: _ :: _, _ => rfl
theorem c_is_maker (T : TKind K w mg) : Says P w K mg base 3 "is_maker" ["value"] (sp_data isMaker) := by
  refine says T.d_is_maker sc_is_maker len_data (fun f cdv A outer s H vs Q E hr h => ?_)
  refine ⟨_, (pss_cons (ps_if (PW.pt (pw_or (pt_not (pt_val (pe_callB call_isi (by rfl) T.tw.b_isinstance (by decide +kernel) (pa_cons (pv 0) (pa_cons (pe_bltn (v := .ty "tuple") (by rfl) T.tw.b_tuple (by decide +kernel) rfl) pa_nil))))) (pw_or1 (pt_cmpR op_ne (pe_callB call_len_seq (by rfl) T.tw.b_len (by decide +kernel) (pa_cons (pv 0) pa_nil)) pe_int (nomark _)))))
        (pss_one (ps_ret pe_bl))
        pss_nil)
      (pss_one (ps_ret (pe_and (pe_callB call_isi (by rfl) T.tw.b_isinstance (by decide +kernel) (pa_cons (pe_ix ix_tup (pv 0) pe_int (fun _ _ => rfl)) (pa_cons (pe_bltn (v := .ty "str") (by rfl) T.tw.b_str (by decide +kernel) rfl) pa_nil))) (pe_one (pe_s (c_is_kind_list T) hr (pa_cons (pe_ix ix_tup (pv 0) pe_int (fun _ _ => rfl)) pa_nil))))))), ?_⟩
  obtain ⟨v, d, rfl, hd, ok, q⟩ := h
  refine ⟨_, rfl, _, _, _, _, _, rfl, .ty _, hd.ty, kit_ty (kit_t d), _, rfl, ?_⟩
  cases d with
  | tuple ds =>
    cases hd with
    | @tup p xs _ e r =>
      have lx := r.length
      refine iteF ?_
      refine ⟨_, rfl, p, xs, rfl, .inr (SqT.of e), rfl, _, rfl, ifNeI (fun h => ?_) (fun h => ?_)⟩
      · have q2 := q H (Same.refl _)
        rw [isMaker_len (ds := ds) (by omega)] at q2
        exact q2
      · cases r with
        | nil => simp at h
        | @cons x xr n nr hn r =>
          cases r with
          | nil => simp at h
          | @cons y yr k kr hk r =>
            cases r with
            | cons _ _ =>
              simp only [List.length_cons] at h
              omega
            | nil =>
              have okn : OKd n := ok.mem_t (by simp)
              have okk : OKd k := ok.mem_t (by simp)
              refine ⟨_, rfl, p, _, _, x, rfl, rfl, SqT.of e, rfl, _, _, _, _, _, rfl, .ty _, hn.ty, kit_ty (kit_s n), _, rfl, ?_⟩
              have q2 : ∀ H', Same H H' → Q (.bl (isS n && isKindList k)) H' := q
              refine ifB (fun h1 => ?_) (fun h1 => ?_)
              · refine ⟨_, rfl, p, _, _, y, rfl, rfl, SqT.of e, rfl, y, k, rfl, hk, okk, fun H' s' => ?_⟩
                have q3 := q2 H' s'
                rw [h1] at q3
                exact q3
              · have q3 := q2 H (Same.refl _)
                rw [h1] at q3
                exact q3
  | none => exact iteT (q _ (Same.refl _))
  | bool _ => exact iteT (q _ (Same.refl _))
  | int _ => exact iteT (q _ (Same.refl _))
  | str _ => exact iteT (q _ (Same.refl _))
  | list _ => exact iteT (q _ (Same.refl _))
  | dict _ => exact iteT (q _ (Same.refl _))
/-- all items of a list, as a def judges each -/
theorem all_of {X : Cx} {f : PyData → Bool} {i : Nat} {σ : L2.St} {H1 : Hp} {p D : Addr} {xs : List V} {ds : List PyData} {te : TE} {Qd : Hp → Prop} (hp : H1 p = some (.lst xs)) (r : DTs H1 xs ds) (hD : H1 D = none) (small : xs.length < 1000)
    (hs : ∀ (x : V) (d : PyData) (H' : Hp) (Q : VK), d ∈ ds → DT H' x d → (∀ H'', Same H' H'' → Q (.bl (f d)) H'') → te ((wipe σ [i]).set i (some x)) H' Q)
    (hd : ∀ H', Same H1 H' → H' D = some (.lst ((ds.map f).map V.bl)) → Qd H') :
    ∃ W : Nat → Nat → Hp → Prop, (∃ m, W 0 m (upd H1 D (.lst []))) ∧ ∀ k m H, W k m H →
      ((Itl X.K p).stop k H ∧ Qd H) ∨ ((Itl X.K p).go k H ∧ ∃ Nx : Hp → Prop, (∀ H', Nx H' → ∃ m', m' < m ∧ W (k + 1) m' H') ∧ ∀ x H', (Itl X.K p).yld k H x H' → gName i x (wipe σ [i]) H' fun σ2 H2 => wipe σ2 [i] = wipe σ [i] ∧ tYes σ2 H2 fun b H3 =>
        if b = true then te σ2 H3 fun y H4 => ∃ acc, H4 D = some (.lst acc) ∧ acc.length < sizeLine ∧ Nx (upd H4 D (.lst (acc ++ [y]))) else Nx H3) := by
  refine lc_mapW (walk_list (K := X.K) (a := p) (xs := xs)) (ys := (ds.map f).map V.bl) (fun H' s' => s'.seq (SqL.of hp)) (fun j H x H' y => y.1) hD (by rw [List.length_map, List.length_map, r.length]) small ?_ hd
  rintro j x y H' Q' s1 ⟨_, hx⟩ hy q'
  rw [List.map_map, List.getElem?_map] at hy
  cases hdj : ds[j]? with
  | none =>
    rw [hdj] at hy
    cases hy
  | some d =>
    rw [hdj] at hy
    obtain rfl : V.bl (f d) = y := Option.some.inj hy
    exact hs x d H' Q' (List.mem_of_getElem? hdj) ((r.get hx hdj).same s1 d) q'
def isMakers : PyData → Bool
  | .list ms => (decide (1 ≤ ms.length) && decide (ms.length ≤ 8)) && ms.all isMaker
  | _ => false
def sp_is_choice_form : Sp := fun vs H Q _ => ∃ (p : Addr) (x n m : V) (dn dm : PyData), vs = [.ref p] ∧ H p = some (.tup [x, n, m]) ∧ DT H n dn ∧ DT H m dm ∧ OKd dn ∧ OKd dm ∧ ∀ H', Same H H' → Q (.bl (isS dn && isMakers dm)) H'
theorem c_is_choice_form (T : TKind K w mg) : Says P w K mg base 4 "is_choice_form" ["value"] sp_is_choice_form := by
  obtain ⟨tm, gm⟩ := T.g_MOST_MAKERS
  refine says T.d_is_choice_form sc_is_choice_form (fun vs H Q E h => ?_) (fun f cdv A outer s H vs Q E hr h => ?_)
  · obtain ⟨_, _, _, _, _, _, rfl, _⟩ := h; rfl
  refine ⟨_, (pss_cons (ps_asg (pe_slice sl_tup (pv 0) (po_some pe_int) po_none) (pg_tup rfl (pgs_cons (pg_name (i := 1) sc_is_choice_form.nd rfl (.inl rfl)) (pgs_cons (pg_name (i := 2) sc_is_choice_form.nd rfl (.inl rfl)) pgs_nil))))
    (pss_cons (ps_if (PW.pt (pw_or (pt_not (pt_val (pe_callB call_isi (by rfl) T.tw.b_isinstance (by decide +kernel) (pa_cons (pv 1) (pa_cons (pe_bltn (v := .ty "str") (by rfl) T.tw.b_str (by decide +kernel) rfl) pa_nil))))) (pw_or1 (pt_not (pt_val (pe_callB call_isi (by rfl) T.tw.b_isinstance (by decide +kernel) (pa_cons (pv 2) (pa_cons (pe_bltn (v := .ty "list") (by rfl) T.tw.b_list (by decide +kernel) rfl) pa_nil))))))))
        (pss_one (ps_ret pe_bl))
        pss_nil)
    (pss_one (ps_ret (pe_and (pe_chain op_le op_le pe_int (pe_callB call_len_seq (by rfl) T.tw.b_len (by decide +kernel) (pa_cons (pv 2) pa_nil)) (pe_glob (v := .int 8) rfl gm ⟨_, rfl⟩)) (pe_one (pe_callB (cr_all rfl) (by rfl) T.tw.b_all (by decide +kernel) (pa_cons (pe_lc (own := [("maker", 3)]) (g := gName 3) (tt := tYes) rfl sc_is_choice_form.nd (pi_list (pv 2)) (blkOk_by (N := ["value", "name", "makers", "maker"]) (sc := defScope s_is_choice_form) (own := [("maker", 3)]) (by decide +kernel)) (fun _ _ _ _ _ => pg_name (i := 3) sc_is_choice_form.nd rfl (Or.inl rfl)) (fun _ _ _ _ _ => pts_nil) (fun _ _ _ _ _ => (pe_s (c_is_maker T) hr (pa_cons (pv 3) pa_nil)))) pa_nil)))))))), ?_⟩
  obtain ⟨p, x, n, m, dn, dm, rfl, hp, hn, hm, okn, okm, q⟩ := h
  refine ⟨_, rfl, 1, rfl, p, _, rfl, SqT.of hp, (by show ¬ (HT.sIx 3 0 (some 1) = 0 ∧ HT.sIx 3 3 none = 3); decide), fun t ht => ?_⟩
  have s1 : Same H (upd H t (.tup [n, m])) := same_new ht
  refine ⟨t, [n, m], rfl, SqT.of upd_same, rfl, n, _, rfl, m, [], rfl, rfl, ?_⟩
  refine ⟨_, rfl, _, _, _, _, _, rfl, .ty _, (hn.same s1 dn).ty, kit_ty (kit_s dn), _, rfl, ?_⟩
  have back : (isS dn && isMakers dm) = false → ∀ H', Same H H' → Q (.bl false) H' := fun e H' s' => by
    have q2 := q H' s'
    rw [e] at q2
    exact q2
  refine ifB (fun h1 => ?_) (fun h1 => ?_)
  · exact back (by have : isS dn = false := by simpa using h1
                   rw [this]; rfl) _ s1
  have e1 : isS dn = true := by simpa using h1
  refine ⟨_, rfl, _, _, _, _, _, rfl, .ty _, (hm.same s1 dm).ty, kit_ty (kit_l dm), _, rfl, ?_⟩
  cases dm with
  | list ms =>
    have small := okm.len_l
    have hm2 := hm.same s1 (.list ms)
    cases hm2 with
    | @lst pm xs _ e r =>
      have lx := r.length
      refine iteF ?_
      refine ⟨_, rfl, pm, xs, rfl, .inl (SqL.of e), _, _, rfl, rfl, _, rfl, ifLe (fun h2 => ?_) (fun h2 => ?_)⟩
      · refine ⟨_, _, rfl, rfl, _, rfl, ifLe (fun h3 => ?_) (fun h3 => ?_)⟩
        · refine ⟨_, rfl, _, rfl, ⟨_, SqL.of e⟩, fun D hD => all_of (f := isMaker) e r hD (by omega) ?_ ?_⟩
          · intro x2 d2 H' Q' hm3 hx q'
            exact ⟨x2, rfl, x2, d2, rfl, hx, okm.mem_l hm3, q'⟩
          · intro H' s2 hd2
            refine ⟨_, ms.map isMaker, rfl, SqL.of hd2, ?_⟩
            have q2 : Q (.bl (isS dn && ((decide (1 ≤ ms.length) && decide (ms.length ≤ 8)) && ms.all isMaker))) H' := q H' (s1.trans s2)
            rw [e1, decide_eq_true (show 1 ≤ ms.length by omega), decide_eq_true (show ms.length ≤ 8 by omega)] at q2
            rw [List.all_map]
            exact q2
        · exact back (by show (isS dn && ((decide (1 ≤ ms.length) && decide (ms.length ≤ 8)) && ms.all isMaker)) = false
                         rw [e1, decide_eq_false (show ¬ ms.length ≤ 8 by omega)]; simp) _ s1
      · refine ⟨_, rfl, iteF ?_⟩
        exact back (by show (isS dn && ((decide (1 ≤ ms.length) && decide (ms.length ≤ 8)) && ms.all isMaker)) = false
                       rw [e1, decide_eq_false (show ¬ 1 ≤ ms.length by omega)]; simp) _ s1
  | none => exact iteT (back (by rw [e1]; rfl) _ s1)
  | bool _ => exact iteT (back (by rw [e1]; rfl) _ s1)
  | int _ => exact iteT (back (by rw [e1]; rfl) _ s1)
  | str _ => exact iteT (back (by rw [e1]; rfl) _ s1)
  | tuple _ => exact iteT (back (by rw [e1]; rfl) _ s1)
  | dict _ => exact iteT (back (by rw [e1]; rfl) _ s1)
def sp_is_calls_form : Sp := fun vs H Q _ => ∃ (p : Addr) (x n m a : V) (dn dm da : PyData), vs = [.ref p] ∧ H p = some (.tup [x, n, m, a]) ∧ DT H n dn ∧ DT H m dm ∧ DT H a da ∧ OKd dn ∧ OKd dm ∧ OKd da ∧ ∀ H', Same H H' → Q (.bl (isS dn && (isKindList dm && isS da))) H'
theorem c_is_calls_form (T : TKind K w mg) : Says P w K mg base 3 "is_calls_form" ["value"] sp_is_calls_form := by
  refine says T.d_is_calls_form sc_is_calls_form (fun vs H Q E h => ?_) (fun f cdv A outer s H vs Q E hr h => ?_)
  · obtain ⟨_, _, _, _, _, _, _, _, rfl, _⟩ := h; rfl
  refine ⟨_, (pss_cons (ps_asg (pe_slice sl_tup (pv 0) (po_some pe_int) po_none) (pg_tup rfl (pgs_cons (pg_name (i := 1) sc_is_calls_form.nd rfl (.inl rfl)) (pgs_cons (pg_name (i := 2) sc_is_calls_form.nd rfl (.inl rfl)) (pgs_cons (pg_name (i := 3) sc_is_calls_form.nd rfl (.inl rfl)) pgs_nil)))))
    (pss_one (ps_ret (pe_and (pe_callB call_isi (by rfl) T.tw.b_isinstance (by decide +kernel) (pa_cons (pv 1) (pa_cons (pe_bltn (v := .ty "str") (by rfl) T.tw.b_str (by decide +kernel) rfl) pa_nil))) (pe_and (pe_s (c_is_kind_list T) hr (pa_cons (pv 2) pa_nil)) (pe_one (pe_callB call_isi (by rfl) T.tw.b_isinstance (by decide +kernel) (pa_cons (pv 3) (pa_cons (pe_bltn (v := .ty "str") (by rfl) T.tw.b_str (by decide +kernel) rfl) pa_nil))))))))), ?_⟩
  obtain ⟨p, x, n, m, a, dn, dm, da, rfl, hp, hn, hm, ha, okn, okm, oka, q⟩ := h
  refine ⟨_, rfl, 1, rfl, p, _, rfl, SqT.of hp, (by show ¬ (HT.sIx 4 0 (some 1) = 0 ∧ HT.sIx 4 4 none = 4); decide), fun t ht => ?_⟩
  have s1 : Same H (upd H t (.tup [n, m, a])) := same_new ht
  refine ⟨t, [n, m, a], rfl, SqT.of upd_same, rfl, n, _, rfl, m, _, rfl, a, [], rfl, rfl, ?_⟩
  refine ⟨_, rfl, _, _, _, _, _, rfl, .ty _, (hn.same s1 dn).ty, kit_ty (kit_s dn), _, rfl, ?_⟩
  refine ifB (fun h1 => ?_) (fun h1 => ?_)
  · refine ⟨_, rfl, m, dm, rfl, hm.same s1 dm, okm, fun H2 s2 => ⟨_, rfl, ifB (fun h2 => ?_) (fun h2 => ?_)⟩⟩
    · refine ⟨_, rfl, _, _, _, _, _, rfl, .ty _, (ha.same (s1.trans s2) da).ty, kit_ty (kit_s da), ?_⟩
      have q2 := q H2 (s1.trans s2)
      rw [h1, h2] at q2
      exact q2
    · have q2 := q H2 (s1.trans s2)
      rw [h1, h2] at q2
      exact q2
  · have q2 := q _ s1
    rw [h1] at q2
    exact q2
end
end Cb
set_option Elab.async false
set_option linter.all false
set_option maxRecDepth 100000
set_option maxHeartbeats 4000000
namespace Cb
open PySem PySem.Spec PyProof.Rows L2
section
variable {P : Program} {w : World} {K : PySem.W.Frag} {mg : Str → Option Value} {base : Heap}
def declForm : PyData → Bool
  | .tuple [h, n, m] => isStr "choice" h && (isS n && isMakers m)
  | .tuple [h, n, m, a] => isStr "calls" h && (isS n && (isKindList m && isS a))
  | _ => false
theorem declForm_len {ds : List PyData} (h : ¬ ds.length = 3) (h2 : ¬ ds.length = 4) : declForm (.tuple ds) = false := by
  match ds, h, h2 with
  | [], _, _ => rfl
  | [_], _, _ => rfl
  | [_, _], _, _ => rfl
  | [_, _, _], h, _ => exact absurd rfl h
  | [_, _, _, _], _, h => exact absurd rfl h
  | _ :: _ :: _ :: _ :: _ :: _, _, _ => rfl
theorem ok_word {z : Str} (h : PyData.strOk z = true) (l : z.length ≤ 1000) : SeqAt.shaped (.str z) = true := (okd_str h l).shaped
theorem DTs.three {H : Hp} {xs : List V} {ds : List PyData} (r : DTs H xs ds) (h : xs.length = 3) : ∃ x y z a b c, xs = [x, y, z] ∧ ds = [a, b, c] ∧ DT H x a ∧ DT H y b ∧ DT H z c := by
  cases r with
  | nil => simp at h
  | cons ha r =>
    cases r with
    | nil => simp at h
    | cons hb r =>
      cases r with
      | nil => simp at h
      | cons hc r =>
        cases r with
        | nil => exact ⟨_, _, _, _, _, _, rfl, rfl, ha, hb, hc⟩
        | cons _ _ =>
          simp only [List.length_cons] at h
          omega
theorem DTs.four {H : Hp} {xs : List V} {ds : List PyData} (r : DTs H xs ds) (h : xs.length = 4) : ∃ x y z u a b c d, xs = [x, y, z, u] ∧ ds = [a, b, c, d] ∧ DT H x a ∧ DT H y b ∧ DT H z c ∧ DT H u d := by
  cases r with
  | nil => simp at h
  | cons ha r =>
    obtain ⟨x, y, z, a, b, c, rfl, rfl, h1, h2, h3⟩ := r.three (by simpa using h)
    exact ⟨_, _, _, _, _, _, _, _, rfl, rfl, ha, h1, h2, h3⟩
theorem c_is_declaration_form (T : TKind K w mg) : Says P w K mg base 5 "is_declaration_form" ["value"] (sp_data declForm) := by
  refine says T.d_is_declaration_form sc_is_declaration_form len_data (fun f cdv A outer s H vs Q E hr h => ?_)
  refine ⟨_, (pss_cons (ps_if (pt_not (pt_val (pe_callB call_isi (by rfl) T.tw.b_isinstance (by decide +kernel) (pa_cons (pv 0) (pa_cons (pe_bltn (v := .ty "tuple") (by rfl) T.tw.b_tuple (by decide +kernel) rfl) pa_nil)))))
        (pss_one (ps_ret pe_bl))
        pss_nil)
    (pss_cons (ps_if (PW.pt (pw_and (pt_cmpR op_eq (pe_callB call_len_seq (by rfl) T.tw.b_len (by decide +kernel) (pa_cons (pv 0) pa_nil)) pe_int (nomark _)) (pw_and1 (pt_cmpR (op_eqD hr.units) (pe_ix ix_tup (pv 0) pe_int (fun _ _ => rfl)) pe_str (nomark _)))))
        (pss_one (ps_ret (pe_s (c_is_choice_form T) hr (pa_cons (pv 0) pa_nil))))
        pss_nil)
    (pss_one (ps_ret (pe_and (pe_cmpR op_eq (pe_callB call_len_seq (by rfl) T.tw.b_len (by decide +kernel) (pa_cons (pv 0) pa_nil)) pe_int (nomark _)) (pe_and (pe_cmpR (op_eqD hr.units) (pe_ix ix_tup (pv 0) pe_int (fun _ _ => rfl)) pe_str (nomark _)) (pe_one (pe_s (c_is_calls_form T) hr (pa_cons (pv 0) pa_nil))))))))), ?_⟩
  obtain ⟨v, d, rfl, hd, ok, q⟩ := h
  refine ⟨_, rfl, _, _, _, _, _, rfl, .ty _, hd.ty, kit_ty (kit_t d), _, rfl, ?_⟩
  cases d with
  | tuple ds =>
    cases hd with
    | @tup p xs _ e r =>
      have lx := r.length
      refine iteF ?_
      refine ⟨_, rfl, p, xs, rfl, .inr (SqT.of e), rfl, _, rfl, ifEqI (fun h => ?_) (fun h => ?_)⟩
      · obtain ⟨x, y, z, a, b, c, rfl, rfl, ha, hb, hc⟩ := r.three (by omega)
        have oka : OKd a := ok.mem_t (by simp)
        have okb : OKd b := ok.mem_t (by simp)
        have okc : OKd c := ok.mem_t (by simp)
        have q1 : ∀ H', Same H H' → Q (.bl (isStr "choice" a && (isS b && isMakers c))) H' := q
        refine ⟨_, rfl, p, _, _, x, rfl, rfl, SqT.of e, rfl, a, .str "choice", ha.dp (good_plain a oka.good), .str _, oka.shaped, by decide +kernel, _, rfl, ?_⟩
        rw [eqv_isStr]
        refine ifB (fun h1 => ?_) (fun h1 => ?_)
        · refine ⟨_, rfl, p, x, y, z, b, c, rfl, e, hb, hc, okb, okc, fun H' s' => ?_⟩
          have q2 := q1 H' s'
          rw [h1] at q2
          exact q2
        · refine ⟨_, rfl, p, [x, y, z], rfl, .inr (SqT.of e), rfl, _, rfl, ifEqI (fun h2 => ?_) (fun h2 => ?_)⟩
          · simp at h2
          · have q2 := q1 H (Same.refl _)
            rw [h1] at q2
            exact q2
      · refine iteF ?_
        refine ⟨_, rfl, p, xs, rfl, .inr (SqT.of e), rfl, _, rfl, ifEqI (fun h2 => ?_) (fun h2 => ?_)⟩
        · obtain ⟨x, y, z, u, a, b, c, d, rfl, rfl, ha, hb, hc, hu⟩ := r.four (by omega)
          have oka : OKd a := ok.mem_t (by simp)
          have okb : OKd b := ok.mem_t (by simp)
          have okc : OKd c := ok.mem_t (by simp)
          have okd : OKd d := ok.mem_t (by simp)
          have q1 : ∀ H', Same H H' → Q (.bl (isStr "calls" a && (isS b && (isKindList c && isS d)))) H' := q
          refine ⟨_, rfl, p, _, _, x, rfl, rfl, SqT.of e, rfl, a, .str "calls", ha.dp (good_plain a oka.good), .str _, oka.shaped, by decide +kernel, _, rfl, ?_⟩
          rw [eqv_isStr]
          refine ifB (fun h1 => ?_) (fun h1 => ?_)
          · refine ⟨_, rfl, p, x, y, z, u, b, c, d, rfl, e, hb, hc, hu, okb, okc, okd, fun H' s' => ?_⟩
            have q2 := q1 H' s'
            rw [h1] at q2
            exact q2
          · have q2 := q1 H (Same.refl _)
            rw [h1] at q2
            exact q2
        · have q2 := q H (Same.refl _)
          rw [declForm_len (ds := ds) (by omega) (by omega)] at q2
          exact q2
  | none => exact iteT (q _ (Same.refl _))
  | bool _ => exact iteT (q _ (Same.refl _))
  | int _ => exact iteT (q _ (Same.refl _))
  | str _ => exact iteT (q _ (Same.refl _))
  | list _ => exact iteT (q _ (Same.refl _))
  | dict _ => exact iteT (q _ (Same.refl _))
/-! ### what a right form has -/
theorem isS_str : ∀ {d : PyData}, isS d = true → ∃ z, d = .str z
  | .str z, _ => ⟨z, rfl⟩
theorem isStr_str {y : Str} : ∀ {d : PyData}, isStr y d = true → d = .str y
  | .str z, h => by
    have : z = y := of_decide_eq_true h
    rw [this]
theorem isKindList_list : ∀ {d : PyData}, isKindList d = true → ∃ ks, d = .list ks ∧ ks.length ≤ 4 ∧ ks.all isS = true
  | .list ks, h => by
    have h2 : decide (ks.length ≤ 4) = true ∧ ks.all isS = true := by simpa [isKindList] using h
    exact ⟨ks, rfl, of_decide_eq_true h2.1, h2.2⟩
theorem isMaker_tup : ∀ {d : PyData}, isMaker d = true → ∃ z ks, d = .tuple [.str z, .list ks] ∧ ks.length ≤ 4 ∧ ks.all isS = true
  | .tuple [n, k], h => by
    have h2 : isS n = true ∧ isKindList k = true := by simpa [isMaker] using h
    obtain ⟨z, rfl⟩ := isS_str h2.1
    obtain ⟨ks, rfl, l, a⟩ := isKindList_list h2.2
    exact ⟨z, ks, rfl, l, a⟩
theorem isMakers_list : ∀ {d : PyData}, isMakers d = true → ∃ ms, d = .list ms ∧ 1 ≤ ms.length ∧ ms.length ≤ 8 ∧ ms.all isMaker = true
  | .list ms, h => by
    have h2 : (1 ≤ ms.length ∧ ms.length ≤ 8) ∧ ms.all isMaker = true := by simpa [isMakers] using h
    exact ⟨ms, rfl, h2.1.1, h2.1.2, h2.2⟩
theorem declForm_cases : ∀ {d : PyData}, declForm d = true → (∃ n ms, d = .tuple [.str "choice", .str n, .list ms] ∧ 1 ≤ ms.length ∧ ms.length ≤ 8 ∧ ms.all isMaker = true) ∨
    ∃ n ws a, d = .tuple [.str "calls", .str n, .list ws, .str a] ∧ ws.length ≤ 4 ∧ ws.all isS = true
  | .tuple [h, n, m], e => by
    have h2 : isStr "choice" h = true ∧ isS n = true ∧ isMakers m = true := by simpa [declForm] using e
    obtain rfl := isStr_str h2.1
    obtain ⟨z, rfl⟩ := isS_str h2.2.1
    obtain ⟨ms, rfl, a, b, c⟩ := isMakers_list h2.2.2
    exact .inl ⟨z, ms, rfl, a, b, c⟩
  | .tuple [h, n, m, a], e => by
    have h2 : isStr "calls" h = true ∧ isS n = true ∧ isKindList m = true ∧ isS a = true := by simpa [declForm] using e
    obtain rfl := isStr_str h2.1
    obtain ⟨z, rfl⟩ := isS_str h2.2.1
    obtain ⟨ks, rfl, l, al⟩ := isKindList_list h2.2.2.1
    obtain ⟨y, rfl⟩ := isS_str h2.2.2.2
    exact .inr ⟨z, ks, y, rfl, l, al⟩
def strOf : PyData → Str
  | .str z => z
  | _ => ""
def nameOf : PyData → Str
  | .tuple (.str z :: _) => z
  | _ => ""
def partsOf : PyData → List Str
  | .tuple [_, .list ks] => ks.map strOf
  | _ => []
def makerNames : PyData → List Str
  | .tuple [_, _, .list ms] => ms.map nameOf
  | _ => []
def kindsIn : PyData → List Str
  | .tuple [_, _, .list ms] => (ms.map partsOf).flatten
  | .tuple [_, _, .list ws, a] => ws.map strOf ++ [strOf a]
  | _ => []
def declName : PyData → Str
  | .tuple (_ :: .str n :: _) => n
  | _ => ""
theorem strs_of {H : Hp} : ∀ {ds : List PyData} {xs : List V}, DTs H xs ds → ds.all isS = true → xs = (ds.map strOf).map V.str
  | [], _, h, _ => by cases h; rfl
  | d :: ds, _, h, a => by
    cases h with
    | cons hd r =>
      have a2 : isS d = true ∧ ds.all isS = true := by simpa using a
      obtain ⟨z, rfl⟩ := isS_str a2.1
      cases hd
      rw [strs_of r a2.2]
      rfl
theorem strs_dt {H : Hp} : ∀ zs : List Str, DTs H (zs.map V.str) (zs.map PyData.str)
  | [] => .nil
  | z :: zs => .cons (.str z) (strs_dt zs)
def sp_maker_names : Sp := fun vs H Q _ => ∃ (v : V) (d : PyData), vs = [v] ∧ DT H v d ∧ OKd d ∧ declForm d = true ∧ ∀ p H', Same H H' → H p = none → H' p = some (.lst ((makerNames d).map V.str)) → Q (.ref p) H'
theorem c_maker_names (T : TKind K w mg) : Says P w K mg base 1 "maker_names" ["declaration"] sp_maker_names := by
  refine says T.d_maker_names sc_maker_names (fun vs H Q E h => ?_) (fun f cdv A outer s H vs Q E hr h => ?_)
  · obtain ⟨_, _, rfl, _⟩ := h; rfl
  refine ⟨_, (pss_cons (ps_if (pt_cmpR op_eq (pe_ix ix_tup (pv 0) pe_int (fun _ _ => rfl)) pe_str (nomark _))
        (pss_one (ps_ret (pe_lst pa_nil)))
        pss_nil)
    (pss_one (ps_ret (pe_lc (own := [("maker", 1)]) (g := gName 1) (tt := tYes) rfl sc_maker_names.nd (pi_list (pe_ix ix_tup (pv 0) pe_int (fun _ _ => rfl))) (blkOk_by (N := ["declaration", "maker"]) (sc := defScope s_maker_names) (own := [("maker", 1)]) (by decide +kernel)) (fun _ _ _ _ _ => pg_name (i := 1) sc_maker_names.nd rfl (Or.inl rfl)) (fun _ _ _ _ _ => pts_nil) (fun _ _ _ _ _ => (pe_ix (r := rIxT K) ix_tup (pv 1) pe_int (fun _ _ => rfl))))))), ?_⟩
  obtain ⟨v, d, rfl, hd, ok, df, q⟩ := h
  rcases declForm_cases df with ⟨n, ms, rfl, l1, l8, al⟩ | ⟨n, ws, a, rfl, l4, al⟩
  · cases hd with
    | @tup p xs _ e r =>
      obtain ⟨x, y, z, a, b, c, rfl, he, ha, hb, hc⟩ := r.three (by rw [r.length]; rfl)
      cases he
      cases ha
      cases hc with
      | @lst pm xs2 _ em rm =>
        refine ⟨_, rfl, p, _, _, _, rfl, rfl, SqT.of e, rfl, rfl, _, rfl, ifN (by decide +kernel) ?_⟩
        have lm := rm.length
        refine ⟨_, rfl, p, _, _, .ref pm, rfl, rfl, SqT.of e, rfl, pm, rfl, ⟨_, SqL.of em⟩, fun D hD => lc_mapW (walk_list (K := K) (a := pm) (xs := xs2)) (ys := ((ms.map nameOf).map V.str)) (fun H' s' => s'.seq (SqL.of em)) (fun j H x H' y => y.1) hD (by rw [List.length_map, List.length_map, rm.length]) (by omega) ?_ ?_⟩
        · rintro j x y H' Q' s1 ⟨_, hx⟩ hy q'
          rw [List.map_map, List.getElem?_map] at hy
          cases hdj : ms[j]? with
          | none =>
            rw [hdj] at hy
            cases hy
          | some d =>
            rw [hdj] at hy
            obtain rfl : V.str (nameOf d) = y := Option.some.inj hy
            have dm : isMaker d = true := List.all_eq_true.mp al d (List.mem_of_getElem? hdj)
            obtain ⟨z, ks, rfl, _, _⟩ := isMaker_tup dm
            have hx2 := (rm.get hx hdj).same s1 _
            cases hx2 with
            | @tup pt xt _ et rt =>
              cases rt with
              | cons hz rt =>
                cases hz
                cases rt with
                | cons hk rt =>
                  cases rt with
                  | nil => exact ⟨_, rfl, pt, _, _, .str z, rfl, rfl, SqT.of et, rfl, q' _ (Same.refl _)⟩
        · intro H' s1 hd2
          exact q D H' s1 hD hd2
  · cases hd with
    | @tup p xs _ e r =>
      obtain ⟨x, y, z, u, a', b, c, d, rfl, he, ha, hb, hc, hu⟩ := r.four (by rw [r.length]; rfl)
      cases he
      cases ha
      refine ⟨_, rfl, p, _, _, _, rfl, rfl, SqT.of e, rfl, rfl, _, rfl, ifY rfl ?_⟩
      refine ⟨(show 0 ≤ sizeLine by decide), fun l hl => ?_⟩
      exact q l _ (same_new hl) hl upd_same
end
end Cb
set_option Elab.async false
set_option linter.all false
set_option maxRecDepth 100000
set_option maxHeartbeats 4000000
namespace Cb
open PySem PySem.Spec PyProof.Rows L2
section
variable {P : Program} {w : World} {K : PySem.W.Frag} {mg : Str → Option Value} {base : Heap}
def sp_kinds_within : Sp := fun vs H Q _ => ∃ (v : V) (d : PyData), vs = [v] ∧ DT H v d ∧ OKd d ∧ declForm d = true ∧ ∀ p H', Same H H' → H p = none → H' p = some (.lst ((kindsIn d).map V.str)) → Q (.ref p) H'
theorem parts_small {m : PyData} (h : isMaker m = true) : (partsOf m).length ≤ 4 := by
  obtain ⟨z, ks, rfl, l, _⟩ := isMaker_tup h
  show (ks.map strOf).length ≤ 4
  rw [List.length_map]
  exact l
theorem flat_small : ∀ {ms : List PyData}, ms.all isMaker = true → ((ms.map partsOf).flatten).length ≤ 4 * ms.length
  | [], _ => by simp
  | m :: ms, h => by
    have h2 : isMaker m = true ∧ ms.all isMaker = true := by simpa using h
    have h3 := parts_small h2.1
    have h4 := flat_small h2.2
    simp only [List.map_cons, List.flatten_cons, List.length_append, List.length_cons] at *
    omega
theorem c_kinds_within (T : TKind K w mg) : Says P w K mg base 1 "kinds_within" ["declaration"] sp_kinds_within := by
  refine says T.d_kinds_within sc_kinds_within (fun vs H Q E h => ?_) (fun f cdv A outer s H vs Q E hr h => ?_)
  · obtain ⟨_, _, rfl, _⟩ := h; rfl
  refine ⟨_, (pss_cons (ps_if (pt_cmpR op_eq (pe_ix ix_tup (pv 0) pe_int (fun _ _ => rfl)) pe_str (nomark _))
        (pss_one (ps_ret (pe_op op_cat (pe_ix ix_tup (pv 0) pe_int (fun _ _ => rfl)) (pe_lst (pa_cons (pe_ix ix_tup (pv 0) pe_int (fun _ _ => rfl)) pa_nil)))))
        pss_nil)
    (pss_one (ps_ret (pe_lc2 (own := [("maker", 1), ("kind", 2)]) (vs1 := [2]) (g := gName 1) (tt := tYes) (wi1 := iList K (tOp (rIxT K) (tVar 1) (tC (.int 1)))) (g1 := gName 2) (tt1 := tYes) rfl sc_kinds_within.nd (pi_list (pe_ix ix_tup (pv 0) pe_int (fun _ _ => rfl))) (blkOk_by (N := ["declaration", "maker", "kind"]) (sc := defScope s_kinds_within) (own := [("maker", 1), ("kind", 2)]) (by decide +kernel)) (by decide)
      (fun _ _ _ _ _ => pg_name (i := 1) sc_kinds_within.nd rfl (Or.inl rfl)) (fun _ _ _ _ _ => pts_nil) (fun _ _ _ _ _ => pi_list (pe_ix (r := rIxT K) ix_tup (pv 1) pe_int (fun _ _ => rfl))) (fun _ _ _ _ _ => pg_name (i := 2) sc_kinds_within.nd rfl (Or.inl rfl)) (fun _ _ _ _ _ => pts_nil) (fun _ _ _ _ _ => (pv 2)))))), ?_⟩
  obtain ⟨v, d, rfl, hd, ok, df, q⟩ := h
  rcases declForm_cases df with ⟨n, ms, rfl, l1, l8, al⟩ | ⟨n, ws, a, rfl, l4, al⟩
  · cases hd with
    | @tup p xs _ e r =>
      obtain ⟨x, y, z, a, b, c, rfl, he, ha, hb, hc⟩ := r.three (by rw [r.length]; rfl)
      cases he
      cases ha
      cases hc with
      | @lst pm xs2 _ em rm =>
        have lm := rm.length
        refine ⟨_, rfl, p, _, _, _, rfl, rfl, SqT.of e, rfl, rfl, _, rfl, ifN (by decide +kernel) ?_⟩
        refine ⟨_, rfl, p, _, _, .ref pm, rfl, rfl, SqT.of e, rfl, pm, rfl, ⟨_, SqL.of em⟩, fun D hD => ?_⟩
        refine ⟨fun i m H' => m = ms.length - i ∧ i ≤ ms.length ∧ Same H H' ∧ H' D = some (.lst ((((ms.take i).map partsOf).flatten).map V.str)), ⟨ms.length, rfl, Nat.zero_le _, same_new hD, upd_same⟩, ?_⟩
        rintro i m H1 ⟨rfl, hi, s1, hd1⟩
        by_cases hlt : i < ms.length
        · right
          have hx : xs2[i]? = some (xs2[i]'(by omega)) := List.getElem?_eq_getElem (by omega)
          have hm : ms[i]? = some ms[i] := List.getElem?_eq_getElem hlt
          have dm : isMaker ms[i] = true := List.all_eq_true.mp al _ (List.getElem_mem _)
          have hdt := rm.get hx hm
          refine ⟨⟨xs2, _, s1.seq (SqL.of em), hx⟩, fun H' => Same H H' ∧ H' D = some (.lst ((((ms.take (i + 1)).map partsOf).flatten).map V.str)), fun H' z => ⟨ms.length - (i + 1), by omega, rfl, hlt, z.1, z.2⟩, ?_⟩
          rintro x H' ⟨eH, ex⟩
          subst eH
          obtain rfl : xs2[i] = x := Option.some.inj (hx.symm.trans (ex xs2 (s1.seq (SqL.of em))))
          refine ⟨rfl, ?_⟩
          obtain ⟨z, ks, ez, k4, ka⟩ := isMaker_tup dm
          rw [ez] at hdt
          generalize hxv : xs2[i] = xv at hdt
          cases hdt with
          | @tup pt xt _ et rt =>
            cases rt with
            | cons hz rt =>
              cases rt with
              | cons hk rt =>
                cases rt with
                | nil =>
                  cases hz
                  cases hk with
                  | @lst pk xk _ ek rk =>
                    have lk := rk.length
                    have exk := strs_of rk ka
                    have done : ((ms.take (i + 1)).map partsOf).flatten = ((ms.take i).map partsOf).flatten ++ ks.map strOf := by
                      rw [List.take_add_one, hm, List.map_append, List.flatten_append]
                      show _ ++ (List.map partsOf [ms[i]]).flatten = _
                      rw [ez]
                      simp [partsOf]
                    have small : (((ms.take i).map partsOf).flatten).length ≤ 4 * ms.length := by
                      have h1 := flat_small (ms := ms.take i) (List.all_eq_true.mpr fun y hy => List.all_eq_true.mp al y (List.mem_of_mem_take hy))
                      have h2 : (ms.take i).length ≤ ms.length := by rw [List.length_take]; omega
                      omega
                    refine ⟨_, rfl, pt, _, 1, .ref pk, rfl, rfl, SqT.of (s1 _ _ et), rfl, pk, rfl, ⟨_, SqL.of (s1 _ _ ek)⟩, ?_⟩
                    refine ⟨fun j k H2 => k = ks.length - j ∧ j ≤ ks.length ∧ Same H H2 ∧ H2 D = some (.lst ((((ms.take i).map partsOf).flatten ++ (ks.map strOf).take j).map V.str)), ?_, ?_⟩
                    · exact ⟨ks.length, rfl, Nat.zero_le _, s1, by rw [List.take_zero, List.append_nil]; exact hd1⟩
                    · rintro j k H2 ⟨rfl, hj, s2, hd2⟩
                      by_cases hl2 : j < ks.length
                      · right
                        have hxk : xk[j]? = some (V.str (strOf ks[j])) := by
                          rw [exk, List.map_map, List.getElem?_map, List.getElem?_eq_getElem hl2]
                          rfl
                        refine ⟨⟨xk, _, s2.seq (SqL.of ek), hxk⟩, fun H3 => Same H H3 ∧ H3 D = some (.lst ((((ms.take i).map partsOf).flatten ++ (ks.map strOf).take (j + 1)).map V.str)), fun H3 z => ⟨ks.length - (j + 1), by omega, rfl, hl2, z.1, z.2⟩, ?_⟩
                        rintro y H3 ⟨eH3, ey⟩
                        rw [eH3]
                        obtain rfl : V.str (strOf ks[j]) = y := Option.some.inj (hxk.symm.trans (ey xk (s2.seq (SqL.of ek))))
                        refine ⟨rfl, ?_⟩
                        refine ⟨_, rfl, _, hd2, ?_, ?_, ?_⟩
                        · refine small1000 ?_
                          rw [List.length_map, List.length_append, List.length_take]
                          have := flat_small (ms := ms.take i) (List.all_eq_true.mpr fun y hy => List.all_eq_true.mp al y (List.mem_of_mem_take hy))
                          omega
                        · intro b o e
                          rw [upd_ne (ne_of_none e hD)]
                          exact s2 _ _ e
                        · have et2 : (ks.map strOf).take (j + 1) = (ks.map strOf).take j ++ [strOf ks[j]] := by
                            rw [List.take_add_one, List.getElem?_map, List.getElem?_eq_getElem hl2]
                            rfl
                          rw [upd_same, et2, ← List.append_assoc, List.map_append (l₂ := [strOf ks[j]])]
                          rfl
                      · left
                        have ej : j = ks.length := by omega
                        subst ej
                        refine ⟨⟨xk, s2.seq (SqL.of ek), by omega⟩, s2, ?_⟩
                        rw [done]
                        have ef : (ks.map strOf).take ks.length = ks.map strOf := List.take_of_length_le (by rw [List.length_map]; omega)
                        rw [ef] at hd2
                        exact hd2
        · left
          have ei : i = ms.length := by omega
          subst ei
          refine ⟨⟨xs2, s1.seq (SqL.of em), by omega⟩, ?_⟩
          rw [List.take_length] at hd1
          exact q D H1 s1 hD hd1
  · cases hd with
    | @tup p xs _ e r =>
      obtain ⟨x, y, z, u, a', b, c, d, rfl, he, ha, hb, hc, hu⟩ := r.four (by rw [r.length]; rfl)
      cases he
      cases ha
      cases hu
      cases hc with
      | @lst pm xs2 _ em rm =>
        have lm := rm.length
        refine ⟨_, rfl, p, _, _, _, rfl, rfl, SqT.of e, rfl, rfl, _, rfl, ifY rfl ?_⟩
        refine ⟨_, rfl, p, _, 2, .ref pm, rfl, rfl, SqT.of e, rfl, _, rfl, p, _, 3, .str a, rfl, rfl, SqT.of e, rfl, (show 1 ≤ sizeLine by decide), fun l hl => ?_⟩
        refine ⟨pm, l, xs2, _, rfl, rfl, same_new hl _ _ em, upd_same, (show xs2.length + 1 ≤ sizeLine from Nat.le_of_lt (small1000 (by omega))), fun t ht => ?_⟩
        refine q t _ ((same_new hl).trans (same_new ht)) ?_ ?_
        · exact ((same_new hl).free ht)
        · rw [upd_same, strs_of rm al]
          show some (HO.lst ((ws.map strOf).map V.str ++ [V.str a])) = some (HO.lst ((ws.map strOf ++ [a]).map V.str))
          rw [List.map_append]
          rfl
end
end Cb
set_option Elab.async false
set_option linter.all false
set_option maxRecDepth 100000
set_option maxHeartbeats 4000000
namespace Cb
open PySem PySem.Spec PyProof.Rows L2
/-! ### the names noted so far, in a dict -/
abbrev Kv := List (Key × V)
def kHas (kn : Kv) (z : Str) : Bool := (valV kn (Sum.inr z)).isSome
def addK (kn : Kv) (z : Str) : Kv := putK kn (Sum.inr z) (V.bl true)
theorem addK_len (kn : Kv) (z : Str) : (addK kn z).length ≤ kn.length + 1 := by
  unfold addK putK
  split
  · rw [List.length_map]
    omega
  · rw [List.length_append]
    simp
def addMakers : List Str → Kv → Bool × Kv
  | [], km => (false, km)
  | z :: r, km => if kHas km z then (true, km) else addMakers r (addK km z)
theorem addMakers_len : ∀ (zs : List Str) (km : Kv), (addMakers zs km).2.length ≤ km.length + zs.length
  | [], km => by simp [addMakers]
  | z :: r, km => by
    unfold addMakers
    split
    · simp
    · have h1 := addMakers_len r (addK km z)
      have h2 := addK_len km z
      simp only [List.length_cons]
      omega
def wrongIn (d : PyData) (kn km : Kv) : Option Str × Kv × Kv :=
  if declForm d = true then
    if ((declName d :: makerNames d).all isWordS) = true then
      if kHas kn (declName d) = true then (some "twice", kn, km)
      else if (addMakers (makerNames d) km).1 = true then (some "twice", addK kn (declName d), (addMakers (makerNames d) km).2) else (none, addK kn (declName d), (addMakers (makerNames d) km).2)
    else (some "name", kn, km)
  else (some "form", kn, km)
def whyV : Option Str → V
  | none => .non
  | some z => .str z
/-- all but two stay -/
def But2 (p q : Addr) (H H' : Hp) : Prop := ∀ b o, b ≠ p → b ≠ q → H b = some o → H' b = some o
section
variable {P : Program} {w : World} {K : PySem.W.Frag} {mg : Str → Option Value} {base : Heap}
theorem declForm_name {d : PyData} (h : declForm d = true) (ok : OKd d) : OKd (.str (declName d)) ∧ ∀ z ∈ makerNames d, OKd (.str z) := by
  rcases declForm_cases h with ⟨n, ms, rfl, l1, l8, al⟩ | ⟨n, ws, a, rfl, l4, al⟩
  · refine ⟨ok.mem_t (by show PyData.str n ∈ _; simp), ?_⟩
    intro z hz
    obtain ⟨m, hm, rfl⟩ := List.mem_map.mp (show z ∈ ms.map nameOf from hz)
    obtain ⟨y, ks, rfl, _, _⟩ := isMaker_tup (List.all_eq_true.mp al m hm)
    have ok1 : OKd (.list ms) := ok.mem_t (by simp)
    exact (ok1.mem_l hm).mem_t (by show PyData.str y ∈ _; simp)
  · refine ⟨ok.mem_t (by show PyData.str n ∈ _; simp), ?_⟩
    intro z hz
    cases (show z ∈ ([] : List Str) from hz)
/-- the second item of a right declaration -/
theorem decl_at {H : Hp} {v : V} {d : PyData} (h : declForm d = true) (hd : DT H v d) : ∃ p xs, v = .ref p ∧ H p = some (.tup xs) ∧ atI xs 1 = some (.str (declName d)) := by
  rcases declForm_cases h with ⟨n, ms, rfl, l1, l8, al⟩ | ⟨n, ws, a, rfl, l4, al⟩
  · cases hd with
    | @tup p xs _ e r =>
      obtain ⟨x, y, z, a, b, c, rfl, he, ha, hb, hc⟩ := r.three (by rw [r.length]; rfl)
      cases he
      cases hb
      exact ⟨p, _, rfl, e, rfl⟩
  · cases hd with
    | @tup p xs _ e r =>
      obtain ⟨x, y, z, u, a', b, c, d, rfl, he, ha, hb, hc, hu⟩ := r.four (by rw [r.length]; rfl)
      cases he
      cases hb
      exact ⟨p, _, rfl, e, rfl⟩
theorem makers_len {d : PyData} (h : declForm d = true) : (makerNames d).length ≤ 8 := by
  rcases declForm_cases h with ⟨n, ms, rfl, l1, l8, al⟩ | ⟨n, ws, a, rfl, l4, al⟩
  · show (ms.map nameOf).length ≤ 8
    rw [List.length_map]
    exact l8
  · show (([] : List Str)).length ≤ 8
    decide
def sp_wrong_in : Sp := fun vs H Q _ => ∃ (v : V) (d : PyData) (pn pm : Addr) (kn km : Kv), vs = [v, .ref pn, .ref pm] ∧ DT H v d ∧ OKd d ∧ pn ≠ pm ∧ H pn = some (.dK kn) ∧ H pm = some (.dK km) ∧ kn.length ≤ 900 ∧ km.length ≤ 900 ∧
  ∀ H', But2 pn pm H H' → H' pn = some (.dK (wrongIn d kn km).2.1) → H' pm = some (.dK (wrongIn d kn km).2.2) → Q (whyV (wrongIn d kn km).1) H'
theorem But2.of_same {p q : Addr} {H H' : Hp} (s : Same H H') : But2 p q H H' := fun b o _ _ e => s b o e
theorem c_wrong_in_declaration (T : TKind K w mg) : Says P w K mg base 6 "wrong_in_declaration" ["declaration", "names", "makers"] sp_wrong_in := by
  refine says T.d_wrong_in_declaration sc_wrong_in_declaration (fun vs H Q E h => ?_) (fun f cdv A outer s H vs Q E hr h => ?_)
  · obtain ⟨_, _, _, _, _, _, rfl, _⟩ := h; rfl
  refine ⟨_, (pss_cons (ps_if (pt_not (pt_val (pe_s (c_is_declaration_form T) hr (pa_cons (pv 0) pa_nil))))
        (pss_one (ps_ret pe_str))
        pss_nil)
    (pss_cons (ps_set (i := 3) sc_wrong_in_declaration.nd rfl (.inl rfl) (pe_s (c_maker_names T) hr (pa_cons (pv 0) pa_nil)))
    (pss_cons (ps_if (pt_not (pt_val (pe_callB (cr_all rfl) (by rfl) T.tw.b_all (by decide +kernel) (pa_cons (pe_lc (own := [("word", 5)]) (g := gName 5) (tt := tYes) rfl sc_wrong_in_declaration.nd (pi_list (pe_op op_cat (pe_lst (pa_cons (pe_ix ix_tup (pv 0) pe_int (fun _ _ => rfl)) pa_nil)) (pv 3))) (blkOk_by (N := ["declaration", "names", "makers", "own", "maker", "word"]) (sc := defScope s_wrong_in_declaration) (own := [("word", 5)]) (by decide +kernel)) (fun _ _ _ _ _ => pg_name (i := 5) sc_wrong_in_declaration.nd rfl (Or.inl rfl)) (fun _ _ _ _ _ => pts_nil) (fun _ _ _ _ _ => (pe_s (c_is_word T.tw) hr (pa_cons (pv 5) pa_nil)))) pa_nil))))
        (pss_one (ps_ret pe_str))
        pss_nil)
    (pss_cons (ps_if (pt_cmp (pc_din (hu_of hr) (pe_ix ix_tup (pv 0) pe_int (fun _ _ => rfl)) (pv 1)))
        (pss_one (ps_ret pe_str))
        pss_nil)
    (pss_cons (ps_dput (hu_of hr) (pv 1) (pe_ix ix_tup (pv 0) pe_int (fun _ _ => rfl)) pe_bl rfl)
    (pss_cons (ps_for PassesOwn.never rfl (pi_list (pv 3)) (pg_name (i := 4) sc_wrong_in_declaration.nd rfl (.inl rfl))
        (pss_cons (ps_if (pt_cmp (pc_din (hu_of hr) (pv 4) (pv 2)))
            (pss_one (ps_ret pe_str))
            pss_nil)
        (pss_one (ps_dput (hu_of hr) (pv 2) (pv 4) pe_bl rfl))))
    (pss_one (ps_ret pe_non)))))))), ?_⟩
  obtain ⟨v, d, pn, pm, kn, km, rfl, hd, ok, ne, hn, hm, ln, lm, q⟩ := h
  refine ⟨_, rfl, v, d, rfl, hd, ok, fun H1 s1 => ⟨_, rfl, ?_⟩⟩
  refine ifB (fun h1 => ?_) (fun h1 => ?_)
  · have e1 : declForm d = false := (Bool.not_eq_true' _).mp h1
    have ew : wrongIn d kn km = (some ("form" : Str), kn, km) := by
      unfold wrongIn
      rw [e1]
      rfl
    rw [ew] at q
    exact q H1 (.of_same s1) (s1 _ _ hn) (s1 _ _ hm)
  have e1 : declForm d = true := (Bool.not_eq_false' _).mp h1
  obtain ⟨okn, okm⟩ := declForm_name e1 ok
  have lmk := makers_len e1
  obtain ⟨p, xs, rfl, hp, at1⟩ := decl_at e1 hd
  refine ⟨_, rfl, .ref p, d, rfl, hd.same s1 d, ok, e1, fun po H2 s2 hpo hpo2 => ?_⟩
  have s12 := s1.trans s2
  refine ⟨_, rfl, p, xs, 1, .str (declName d), rfl, rfl, SqT.of (s12 _ _ hp), at1, (show 1 ≤ sizeLine by decide), fun l hl => ?_⟩
  refine ⟨_, rfl, l, po, _, _, rfl, rfl, upd_same, same_new hl _ _ hpo2, (show 1 + ((makerNames d).map V.str).length ≤ sizeLine by rw [List.length_map]; exact Nat.le_of_lt (small1000 (by omega))), fun t ht => ?_⟩
  have s3 : Same H (upd (upd H2 l (.lst [.str (declName d)])) t (.lst ([.str (declName d)] ++ (makerNames d).map V.str))) := s12.trans ((same_new hl).trans (same_new ht))
  refine ⟨t, rfl, ⟨_, SqL.of upd_same⟩, fun D hD => all_of (X := (cxOf CX0 P w K mg base ["declaration", "names", "makers", "own", "maker", "word"] "wrong_in_declaration" (defScope s_wrong_in_declaration) f cdv A outer s H E).nox) (f := isWord) (ds := (declName d :: makerNames d).map PyData.str) upd_same (strs_dt (declName d :: makerNames d)) hD (by simp only [List.length_append, List.length_map, List.length_cons, List.length_nil]; omega) ?_ ?_⟩
  · intro x d2 H' Q' hm2 hx q'
    obtain ⟨z, hz, rfl⟩ := List.mem_map.mp hm2
    have okz : OKd (.str z) := by
      rcases List.mem_cons.mp hz with rfl | hz
      · exact okn
      · exact okm z hz
    exact ⟨x, rfl, x, _, rfl, hx, okz, q'⟩
  intro H3 s4 hd3
  have s34 := s3.trans s4
  refine ⟨_, _, rfl, SqL.of hd3, _, rfl, ?_⟩
  have eall : ((((declName d :: makerNames d).map PyData.str).map isWord).all id) = (declName d :: makerNames d).all isWordS := by
    rw [List.map_map, List.all_map]
    rfl
  rw [eall]
  refine ifB (fun h2 => ?_) (fun h2 => ?_)
  · have e2 : (declName d :: makerNames d).all isWordS = false := (Bool.not_eq_true' _).mp h2
    have ew : wrongIn d kn km = (some ("name" : Str), kn, km) := by
      unfold wrongIn
      rw [e1, e2]
      rfl
    rw [ew] at q
    exact q H3 (.of_same s34) (s34 _ _ hn) (s34 _ _ hm)
  have e2 : (declName d :: makerNames d).all isWordS = true := (Bool.not_eq_false' _).mp h2
  refine ⟨_, rfl, p, xs, 1, .str (declName d), rfl, rfl, SqT.of (s34 _ _ hp), at1, _, rfl, pn, _, rfl, DGet.k (k := Sum.inr (declName d)) (s34 _ _ hn), _, rfl, ?_⟩
  refine ifB (fun h3 => ?_) (fun h3 => ?_)
  · have e3 : kHas kn (declName d) = true := h3
    have ew : wrongIn d kn km = (some ("twice" : Str), kn, km) := by
      unfold wrongIn
      rw [e1, e2, e3]
      rfl
    rw [ew] at q
    exact q H3 (.of_same s34) (s34 _ _ hn) (s34 _ _ hm)
  have e3 : kHas kn (declName d) = false := h3
  refine ⟨_, rfl, _, rfl, p, xs, 1, .str (declName d), rfl, rfl, SqT.of (s34 _ _ hp), at1, pn, _, rfl, DPut.k (k := Sum.inr (declName d)) (s34 _ _ hn) (Nat.lt_of_le_of_lt ln (by decide)), ?_⟩
  have npo : po ≠ pn := (ne_of_none (s1 _ _ hn) hpo).symm
  have npm : po ≠ pm := (ne_of_none (s1 _ _ hm) hpo).symm
  have hpo4 : upd H3 pn (.dK (addK kn (declName d))) po = some (.lst ((makerNames d).map V.str)) := by
    rw [upd_ne npo]
    exact (((same_new hl).trans (same_new ht)).trans s4) _ _ hpo2
  have hm4 : upd H3 pn (.dK (addK kn (declName d))) pm = some (.dK km) := by
    rw [upd_ne ne.symm]
    exact s34 _ _ hm
  have b4 : But2 pn pm H (upd H3 pn (.dK (addK kn (declName d)))) := fun b o n1 n2 e => by
    rw [upd_ne n1]
    exact s34 _ _ e
  refine ⟨_, rfl, po, rfl, ⟨_, SqL.of hpo4⟩, for_list (xs := (makerNames d).map V.str) (fun i σ H' => (∃ x4 : Option V, σ = [some (.ref p), some (.ref pn), some (.ref pm), some (.ref po), x4, none]) ∧
    (∃ km' : Kv, addMakers (makerNames d) km = addMakers ((makerNames d).drop i) km' ∧ H' pm = some (.dK km') ∧ km'.length ≤ km.length + i) ∧ H' pn = some (.dK (addK kn (declName d))) ∧ But2 pn pm H H' ∧ H' po = some (.lst ((makerNames d).map V.str)))
    ⟨⟨none, rfl⟩, ⟨km, rfl, hm4, by omega⟩, upd_same, b4, hpo4⟩ (fun i σ H' _ h => SqL.of h.2.2.2.2) ?_ ?_⟩
  · rintro i x σ H' hx ⟨⟨x4, rfl⟩, ⟨km', ea, hk, lk⟩, hn', b', ho'⟩
    have hi : i < (makerNames d).length := by
      have := (List.getElem?_eq_some_iff.mp hx).1
      rwa [List.length_map] at this
    have hxz : x = .str ((makerNames d)[i]) := by
      rw [List.getElem?_map, List.getElem?_eq_getElem hi] at hx
      exact (Option.some.inj hx).symm
    subst hxz
    rw [List.drop_eq_getElem_cons hi] at ea
    refine ⟨_, rfl, _, rfl, pm, _, rfl, DGet.k (k := Sum.inr ((makerNames d)[i])) hk, _, rfl, ?_⟩
    refine ifB (fun h4 => ?_) (fun h4 => ?_)
    · have e4 : kHas km' ((makerNames d)[i]) = true := h4
      have ew : wrongIn d kn km = (some ("twice" : Str), addK kn (declName d), km') := by
        unfold wrongIn
        rw [e1, e2, e3, ea]
        unfold addMakers
        rw [e4]
        rfl
      rw [ew] at q
      exact q H' b' hn' hk
    · have e4 : kHas km' ((makerNames d)[i]) = false := h4
      refine ⟨_, rfl, _, rfl, pm, _, rfl, DPut.k (k := Sum.inr ((makerNames d)[i])) hk (Nat.lt_of_le_of_lt (show km'.length ≤ 908 by omega) (by decide)), ?_⟩
      refine ⟨⟨_, rfl⟩, ⟨addK km' ((makerNames d)[i]), ?_, upd_same, ?_⟩, ?_, ?_, ?_⟩
      · rw [ea]
        conv => lhs; unfold addMakers
        rw [e4]
        rfl
      · have := addK_len km' ((makerNames d)[i])
        omega
      · rw [upd_ne ne]
        exact hn'
      · intro b o n1 n2 e
        rw [upd_ne n2]
        exact b' b o n1 n2 e
      · rw [upd_ne npm]
        exact ho'
  · rintro σ H' ⟨⟨x4, rfl⟩, ⟨km', ea, hk, lk⟩, hn', b', ho'⟩
    rw [List.length_map, List.drop_length] at ea
    have ew : wrongIn d kn km = (none, addK kn (declName d), km') := by
      unfold wrongIn
      rw [e1, e2, e3, ea]
      rfl
    rw [ew] at q
    exact q H' b' hn' hk
end
end Cb
set_option Elab.async false
set_option linter.all false
set_option maxRecDepth 100000
set_option maxHeartbeats 4000000
namespace Cb
open PySem PySem.Spec PyProof.Rows L2
def firstLoop : List PyData → Nat → Kv → Kv → Option (Nat × Str) × Kv
  | [], _, kn, _ => (none, kn)
  | d :: ds, i, kn, km => match (wrongIn d kn km).1 with
    | some w => (some (i, w), (wrongIn d kn km).2.1)
    | none => firstLoop ds (i + 1) (wrongIn d kn km).2.1 (wrongIn d kn km).2.2
def secondLoop (kn : Kv) : List PyData → Nat → Option (Nat × Str)
  | [], _ => none
  | d :: ds, i => if (kindsIn d).all (kHas kn) = true then secondLoop kn ds (i + 1) else some (i, "kind")
def kn0 : Kv := [(Sum.inr "num", V.bl true), (Sum.inr "flag", V.bl true)]
def wrongDecl (ds : List PyData) : Option (Nat × Str) := match (firstLoop ds 0 kn0 []).1 with
  | some x => some x
  | none => secondLoop (firstLoop ds 0 kn0 []).2 ds 0
theorem wrongIn_len (d : PyData) (kn km : Kv) : (wrongIn d kn km).2.1.length ≤ kn.length + 1 ∧ (wrongIn d kn km).2.2.length ≤ km.length + 8 := by
  have h1 := addK_len kn (declName d)
  unfold wrongIn
  split
  · rename_i df
    have h2 := addMakers_len (makerNames d) km
    have h3 := makers_len df
    split
    · split
      · exact ⟨by show kn.length ≤ _; omega, by show km.length ≤ _; omega⟩
      · split
        · exact ⟨h1, by show ((addMakers (makerNames d) km).2).length ≤ _; omega⟩
        · exact ⟨h1, by show ((addMakers (makerNames d) km).2).length ≤ _; omega⟩
    · exact ⟨by show kn.length ≤ _; omega, by show km.length ≤ _; omega⟩
  · exact ⟨by show kn.length ≤ _; omega, by show km.length ≤ _; omega⟩
theorem wrongIn_form {d : PyData} {kn km : Kv} (h : (wrongIn d kn km).1 = none) : declForm d = true := by
  unfold wrongIn at h
  split at h
  · assumption
  · cases h
theorem firstLoop_forms : ∀ {ds : List PyData} {i : Nat} {kn km : Kv}, (firstLoop ds i kn km).1 = none → ∀ d ∈ ds, declForm d = true
  | [], _, _, _, _, d, hd => by cases hd
  | e :: ds, i, kn, km, h, d, hd => by
    unfold firstLoop at h
    cases hw : (wrongIn e kn km).1 with
    | some w =>
      rw [hw] at h
      cases h
    | none =>
      rw [hw] at h
      rcases List.mem_cons.mp hd with rfl | hd
      · exact wrongIn_form hw
      · exact firstLoop_forms h d hd
section
variable {P : Program} {w : World} {K : PySem.W.Frag} {mg : Str → Option Value} {base : Heap}
def wrongQ (r : Option (Nat × Str)) (Q : VK) (H : Hp) : Prop := match r with
  | none => Q .non H
  | some (i, z) => ∀ t H', Same H H' → H t = none → H' t = some (.tup [.int (i : Nat), .str z]) → Q (.ref t) H'
def sp_wrong_declaration : Sp := fun vs H Q _ => ∃ (p : Addr) (xs : List V) (ds : List PyData), vs = [.ref p] ∧ H p = some (.lst xs) ∧ DTs H xs ds ∧ OKd (.list ds) ∧ ds.length ≤ 12 ∧ ∀ H', Same H H' → wrongQ (wrongDecl ds) Q H'
theorem c_wrong_declaration (T : TKind K w mg) : Says P w K mg base 7 "wrong_declaration" ["kinds"] sp_wrong_declaration := by
  refine says T.d_wrong_declaration sc_wrong_declaration (fun vs H Q E h => ?_) (fun f cdv A outer s H vs Q E hr h => ?_)
  · obtain ⟨_, _, _, rfl, _⟩ := h; rfl
  refine ⟨_, (pss_cons (ps_asg (pe_tup (pa_cons (pe_disp (pps_cons pe_str pe_bl (pps_cons pe_str pe_bl pps_nil)) rfl rfl (by decide) (by decide)) (pa_cons pe_dnewK pa_nil))) (pg_tup rfl (pgs_cons (pg_name (i := 1) sc_wrong_declaration.nd rfl (.inr rfl)) (pgs_cons (pg_name (i := 2) sc_wrong_declaration.nd rfl (.inl rfl)) pgs_nil))))
    (pss_cons (ps_for PassesOwn.never rfl (pi_enum (by rfl) T.b_enumerate (pa_cons (pv 0) pa_nil)) (pg_tup rfl (pgs_cons (pg_name (i := 3) sc_wrong_declaration.nd rfl (.inl rfl)) (pgs_cons (pg_name (i := 4) sc_wrong_declaration.nd rfl (.inl rfl)) pgs_nil)))
        (pss_cons (ps_set (i := 5) sc_wrong_declaration.nd rfl (.inl rfl) (pe_s (c_wrong_in_declaration T) hr (pa_cons (pv 4) (pa_cons (pv 1) (pa_cons (pv 2) pa_nil)))))
        (pss_one (ps_if (pt_cmpR op_notN (pv 5) pe_non (nomark _))
            (pss_one (ps_ret (pe_tup (pa_cons (pv 3) (pa_cons (pv 5) pa_nil)))))
            pss_nil))))
    (pss_cons (ps_for PassesOwn.never rfl (pi_enum (by rfl) T.b_enumerate (pa_cons (pv 0) pa_nil)) (pg_tup rfl (pgs_cons (pg_name (i := 3) sc_wrong_declaration.nd rfl (.inl rfl)) (pgs_cons (pg_name (i := 4) sc_wrong_declaration.nd rfl (.inl rfl)) pgs_nil)))
        (pss_one (ps_if (pt_not (pt_val (pe_callB (cr_all rfl) (by rfl) T.tw.b_all (by decide +kernel) (pa_cons (pe_lc (own := [("kind", 6)]) (g := gName 6) (tt := tYes) rfl sc_wrong_declaration.nd (pi_list (pe_s (c_kinds_within T) hr (pa_cons (pv 4) pa_nil))) (blkOk_by (N := ["kinds", "names", "makers", "number", "declaration", "why", "kind"]) (sc := defScope s_wrong_declaration) (own := [("kind", 6)]) (by decide +kernel)) (fun _ _ _ _ _ => pg_name (i := 6) sc_wrong_declaration.nd rfl (Or.inl rfl)) (fun _ _ _ _ _ => pts_nil) (fun _ _ _ _ _ => (pe_cmp (pc_din (hu_of hr) (pv 6) (pv 1))))) pa_nil))))
            (pss_one (ps_ret (pe_tup (pa_cons (pv 3) (pa_cons pe_str pa_nil)))))
            pss_nil)))
    (pss_one (ps_ret pe_non))))), ?_⟩
  obtain ⟨p, xs, ds, rfl, hp, hds, ok, l12, q⟩ := h
  have lx := hds.length
  refine fun pn hpn => ⟨upd_same, kn0, rfl, by decide, ?_⟩
  rw [upd_upd]
  refine fun pm hpm => ⟨(show 2 ≤ sizeLine by decide), fun tt htt => ?_⟩
  refine ⟨tt, [.ref pn, .ref pm], rfl, SqT.of upd_same, rfl, .ref pn, _, rfl, .ref pm, [], rfl, rfl, ?_⟩
  have npm : pn ≠ pm := ne_of_none upd_same hpm
  have ntn : tt ≠ pn := (ne_of_none ((upd_ne npm).trans upd_same) htt).symm
  have ntm : tt ≠ pm := (ne_of_none upd_same htt).symm
  have hpm0 : H pm = none := by rwa [upd_ne npm.symm] at hpm
  have s0 : Same H (upd (upd (upd H pn (.dK (mergeK [] kn0))) pm (.dK [])) tt (.tup [.ref pn, .ref pm])) := ((same_new hpn).trans (same_new hpm)).trans (same_new htt)
  have hn0 : upd (upd (upd H pn (.dK (mergeK [] kn0))) pm (.dK [])) tt (.tup [.ref pn, .ref pm]) pn = some (.dK kn0) := by
    rw [upd_ne ntn.symm, upd_ne npm, upd_same]
    rfl
  have hm0 : upd (upd (upd H pn (.dK (mergeK [] kn0))) pm (.dK [])) tt (.tup [.ref pn, .ref pm]) pm = some (.dK []) := by
    rw [upd_ne ntm.symm, upd_same]
  have off : ∀ {H1 H2 : Hp}, Same H H1 → But2 pn pm H1 H2 → Same H H2 := fun s b c o e => b c o (ne_of_none e hpn) (ne_of_none e hpm0) (s c o e)
  refine ⟨_, rfl, p, xs, rfl, SqL.of (s0 _ _ hp), for_it (walk_enum (K := K) (a := p) (xs := xs)) (fun i σ H' => (∃ x3 x4 x5 : Option V, σ = [some (.ref p), some (.ref pn), some (.ref pm), x3, x4, x5, none]) ∧
    (∃ kn km : Kv, firstLoop ds 0 kn0 [] = firstLoop (ds.drop i) i kn km ∧ H' pn = some (.dK kn) ∧ H' pm = some (.dK km) ∧ kn.length ≤ 2 + i ∧ km.length ≤ 8 * i) ∧ Same H H')
    ⟨⟨none, none, none, rfl⟩, ⟨kn0, [], rfl, hn0, hm0, by decide, by decide⟩, s0⟩ (fun i σ H' _ h => h.2.2.seq (SqL.of hp)) ?_ ?_⟩
  · rintro i x σ H1 H2 hi ⟨⟨x3, x4, x5, rfl⟩, ⟨kn, km, ef, hn, hm, ln, lm⟩, s1⟩ ⟨t, xi, xd, rfl, ht, rfl, ei, ed⟩
    obtain rfl : V.int (i : Nat) = xi := Option.some.inj ei
    have hdi : ds[i]? = some (ds[i]'(by omega)) := List.getElem?_eq_getElem (by omega)
    have hdt := hds.get ed hdi
    have okd : OKd (ds[i]'(by omega)) := ok.mem_l (List.getElem_mem _)
    have s2 : Same H (upd H1 t (.tup [.int (i : Nat), xd])) := s1.trans (same_new ht)
    have n1 : t ≠ pn := (ne_of_none hn ht).symm
    have n2 : t ≠ pm := (ne_of_none hm ht).symm
    refine ⟨t, _, rfl, SqT.of upd_same, rfl, .int (i : Nat), _, rfl, xd, [], rfl, rfl, ?_⟩
    rw [List.drop_eq_getElem_cons (show i < ds.length by omega)] at ef
    conv at ef => rhs; unfold firstLoop
    have lw := wrongIn_len (ds[i]'(by omega)) kn km
    refine ⟨_, rfl, _, rfl, _, rfl, xd, _, pn, pm, kn, km, rfl, hdt.same s2 _, okd, npm, (upd_ne n1.symm).trans hn, (upd_ne n2.symm).trans hm, by omega, by omega, fun H3 b3 hn3 hm3 => ?_⟩
    have s3 := off s2 b3
    refine ⟨_, rfl, rfl, _, rfl, ?_⟩
    cases hw : (wrongIn (ds[i]'(by omega)) kn km).1 with
    | some z =>
      rw [hw] at ef
      refine iteT ?_
      refine ⟨_, rfl, _, rfl, (show 2 ≤ sizeLine by decide), fun t2 ht2 => ?_⟩
      have q2 := q H3 s3
      unfold wrongDecl at q2
      rw [ef] at q2
      exact q2 t2 _ (same_new ht2) ht2 upd_same
    | none =>
      rw [hw] at ef
      refine iteF ?_
      exact ⟨⟨_, _, _, rfl⟩, ⟨_, _, ef, hn3, hm3, by omega, by omega⟩, s3⟩
  · rintro σ H1 ⟨⟨x3, x4, x5, rfl⟩, ⟨kn, km, ef, hn, hm, ln, lm⟩, s1⟩
    rw [lx, List.drop_length] at ef
    have fo := firstLoop_forms (ds := ds) (i := 0) (kn := kn0) (km := []) (by rw [ef]; rfl)
    have q2 : ∀ H', Same H H' → wrongQ (secondLoop kn ds 0) Q H' := fun H' s' => by
      have q3 := q H' s'
      unfold wrongDecl at q3
      rw [ef] at q3
      exact q3
    refine ⟨_, rfl, p, xs, rfl, SqL.of (s1 _ _ hp), for_it (walk_enum (K := K) (a := p) (xs := xs)) (fun i σ H' => (∃ x3 x4 x5 : Option V, σ = [some (.ref p), some (.ref pn), some (.ref pm), x3, x4, x5, none]) ∧ secondLoop kn ds 0 = secondLoop kn (ds.drop i) i ∧ H' pn = some (.dK kn) ∧ Same H H')
      ⟨⟨_, _, _, rfl⟩, rfl, hn, s1⟩ (fun i σ H' _ h => h.2.2.2.seq (SqL.of hp)) ?_ ?_⟩
    · rintro i x σ H2 H3 hi ⟨⟨y3, y4, y5, rfl⟩, es, hn2, s2⟩ ⟨t, xi, xd, rfl, ht, rfl, ei, ed⟩
      obtain rfl : V.int (i : Nat) = xi := Option.some.inj ei
      have hdi : ds[i]? = some (ds[i]'(by omega)) := List.getElem?_eq_getElem (by omega)
      have hdt := hds.get ed hdi
      have okd : OKd (ds[i]'(by omega)) := ok.mem_l (List.getElem_mem _)
      have s3 : Same H (upd H2 t (.tup [.int (i : Nat), xd])) := s2.trans (same_new ht)
      have n1 : t ≠ pn := (ne_of_none hn2 ht).symm
      refine ⟨t, _, rfl, SqT.of upd_same, rfl, .int (i : Nat), _, rfl, xd, [], rfl, rfl, ?_⟩
      rw [List.drop_eq_getElem_cons (show i < ds.length by omega)] at es
      conv at es => rhs; unfold secondLoop
      refine ⟨_, rfl, xd, _, rfl, hdt.same s3 _, okd, fo _ (List.getElem_mem _), fun po H4 s4 hpo ho => ?_⟩
      have hn4 : H4 pn = some (.dK kn) := s4 _ _ ((upd_ne n1.symm).trans hn2)
      have small : (kindsIn (ds[i]'(by omega))).length < 1000 := by
        rcases declForm_cases (fo _ (List.getElem_mem (show i < ds.length by omega))) with ⟨n, ms, e, l1, l8, al⟩ | ⟨n, ws, a, e, l4, al⟩
        · rw [e]
          have := flat_small al
          show ((ms.map partsOf).flatten).length < 1000
          omega
        · rw [e]
          show (ws.map strOf ++ [strOf (.str a)]).length < 1000
          simp only [List.length_append, List.length_map, List.length_cons, List.length_nil]
          omega
      refine ⟨po, rfl, ⟨_, SqL.of ho⟩, fun D hD => lc_mapW (walk_list (K := K) (a := po) (xs := (kindsIn (ds[i]'(by omega))).map V.str)) (ys := ((kindsIn (ds[i]'(by omega))).map (kHas kn)).map V.bl) (fun H' s' => s'.seq (SqL.of ho)) (fun j H x H' y => y.1) hD (by simp) (by rw [List.length_map]; exact small) ?_ ?_⟩
      · rintro j x y H' Q' s5 ⟨_, hx⟩ hy q'
        rw [List.getElem?_map] at hx
        rw [List.map_map, List.getElem?_map] at hy
        cases hz : (kindsIn (ds[i]'(by omega)))[j]? with
        | none =>
          rw [hz] at hx
          cases hx
        | some z =>
          rw [hz] at hx hy
          obtain rfl : V.str z = x := Option.some.inj hx
          obtain rfl : V.bl (kHas kn z) = y := Option.some.inj hy
          exact ⟨_, rfl, _, rfl, pn, _, rfl, DGet.k (k := Sum.inr z) (s5 _ _ hn4), q' _ (Same.refl _)⟩
      · intro H5 s5 hd5
        refine ⟨_, _, rfl, SqL.of hd5, _, rfl, ?_⟩
        have s6 := (s3.trans s4).trans s5
        rw [show (((kindsIn (ds[i]'(by omega))).map (kHas kn)).all id) = (kindsIn (ds[i]'(by omega))).all (kHas kn) by rw [List.all_map]; rfl]
        refine ifB (fun h4 => ?_) (fun h4 => ?_)
        · have e4 := (Bool.not_eq_true' _).mp h4
          rw [e4] at es
          refine ⟨_, rfl, (show 2 ≤ sizeLine by decide), fun t2 ht2 => ?_⟩
          have q3 := q2 H5 s6
          rw [es] at q3
          exact q3 t2 _ (same_new ht2) ht2 upd_same
        · have e4 := (Bool.not_eq_false' _).mp h4
          rw [e4] at es
          exact ⟨⟨_, _, _, rfl⟩, es, s5 _ _ hn4, s6⟩
    · rintro σ H2 ⟨⟨y3, y4, y5, rfl⟩, es, hn2, s2⟩
      rw [lx, List.drop_length] at es
      have q3 := q2 H2 s2
      rw [es] at q3
      exact q3
def isKinds : PyData → Bool
  | .list ds => decide (ds.length ≤ 12) && (wrongDecl ds).isNone
  | _ => false
def sp_is_kinds : Sp := fun vs H Q _ => ∃ (v : V) (d : PyData), vs = [v] ∧ DT H v d ∧ (OKd d ∨ d = .dict []) ∧ ∀ H', Same H H' → Q (.bl (isKinds d)) H'
theorem len_is_kinds : ∀ vs H Q E, sp_is_kinds vs H Q E → vs.length = (["value"] : List Str).length := fun vs H Q E h => by
  obtain ⟨_, _, rfl, _⟩ := h; rfl
theorem b_is_kinds (T : TKind K w mg) : Body P w K mg base 7 "is_kinds" s_is_kinds ["value"] sp_is_kinds := by
  obtain ⟨tm, gm⟩ := T.g_MOST_KINDS
  intro f cdv A outer s H vs Q E hr h
  refine ⟨_, (pss_cons (ps_if (PW.pt (pw_or (pt_not (pt_val (pe_callB call_isi (by rfl) T.tw.b_isinstance (by decide +kernel) (pa_cons (pv 0) (pa_cons (pe_bltn (v := .ty "list") (by rfl) T.tw.b_list (by decide +kernel) rfl) pa_nil))))) (pw_or1 (pt_cmpR op_gt (pe_callB call_len_seq (by rfl) T.tw.b_len (by decide +kernel) (pa_cons (pv 0) pa_nil)) (pe_glob (v := .int 12) rfl gm ⟨_, rfl⟩) (nomark _)))))
        (pss_one (ps_ret pe_bl))
        pss_nil)
    (pss_one (ps_ret (pe_cmpR op_isN (pe_s (c_wrong_declaration T) hr (pa_cons (pv 0) pa_nil)) pe_non (nomark _))))), ?_⟩
  obtain ⟨v, d, rfl, hd, ok, q⟩ := h
  refine ⟨_, rfl, _, _, _, _, _, rfl, .ty _, hd.ty, kit_ty (kit_l d), _, rfl, ?_⟩
  cases d with
  | list ds =>
    have ok1 : OKd (.list ds) := by
      rcases ok with ok | ok
      · exact ok
      · cases ok
    cases hd with
    | @lst p xs _ e r =>
      have lx := r.length
      refine iteF ?_
      refine ⟨_, rfl, p, xs, rfl, .inl (SqL.of e), _, _, rfl, rfl, _, rfl, ?_⟩
      refine ifB (fun h => ?_) (fun h => ?_)
      · have h2 := of_decide_eq_true h
        have q2 : Q (.bl (decide (ds.length ≤ 12) && (wrongDecl ds).isNone)) H := q H (Same.refl _)
        rw [decide_eq_false (show ¬ ds.length ≤ 12 by omega)] at q2
        exact q2
      · have h2 := of_decide_eq_false h
        have q2 : ∀ H', Same H H' → Q (.bl (wrongDecl ds).isNone) H' := fun H' s' => by
          have q3 : Q (.bl (decide (ds.length ≤ 12) && (wrongDecl ds).isNone)) H' := q H' s'
          rw [decide_eq_true (show ds.length ≤ 12 by omega)] at q3
          exact q3
        refine ⟨_, rfl, p, xs, ds, rfl, e, r, ok1, by omega, fun H' s' => ?_⟩
        cases hw : wrongDecl ds with
        | none =>
          have q3 := q2 H' s'
          rw [hw] at q3
          exact ⟨rfl, q3⟩
        | some x =>
          obtain ⟨i, z⟩ := x
          intro t H2 s2 _ _
          have q3 := q2 H2 (s'.trans s2)
          rw [hw] at q3
          exact ⟨rfl, q3⟩
  | none => exact iteT (q _ (Same.refl _))
  | bool _ => exact iteT (q _ (Same.refl _))
  | int _ => exact iteT (q _ (Same.refl _))
  | str _ => exact iteT (q _ (Same.refl _))
  | tuple _ => exact iteT (q _ (Same.refl _))
  | dict _ => exact iteT (q _ (Same.refl _))
theorem c_is_kinds (T : TKind K w mg) : Says P w K mg base 8 "is_kinds" ["value"] sp_is_kinds := says T.d_is_kinds sc_is_kinds len_is_kinds (b_is_kinds T)
theorem k_is_kinds (T : TKind K w mg) : SaysK P w K mg base 8 "is_kinds" ["value"] ["value"] (fun l => l) sp_is_kinds := saysK T.k_is_kinds sc_is_kinds len_is_kinds (b_is_kinds T)
end
end Cb
set_option Elab.async false
set_option linter.all false
set_option maxRecDepth 100000
set_option maxHeartbeats 4000000
namespace Cb
open PySem PySem.Spec PyProof.Rows L2
abbrev s_l_hash : Stmt := topS 33
theorem sc_l_hash : FnScope ["_law_seed", "_law_index", "_law_mixed"] ["_law_seed", "_law_index"] (defScope s_l_hash) := ⟨rfl, rfl, rfl, by decide +kernel, rfl, by decide +kernel, by decide +kernel⟩
abbrev s_l_random : Stmt := topS 34
theorem sc_l_random : FnScope ["_law_generator_here", "_law_bound", "_law_drawn", "_law_turn"] ["_law_generator_here", "_law_bound"] (defScope s_l_random) := ⟨rfl, rfl, rfl, by decide +kernel, rfl, by decide +kernel, by decide +kernel⟩
abbrev s_l_cell : Stmt := topS 35
theorem sc_l_cell : FnScope ["_law_script", "_law_index"] ["_law_script", "_law_index"] (defScope s_l_cell) := ⟨rfl, rfl, rfl, by decide +kernel, rfl, by decide +kernel, by decide +kernel⟩
abbrev s_l_generator : Stmt := topS 36
theorem sc_l_generator : FnScope ["_law_script", "_law_index", "_law_seed"] ["_law_script", "_law_index"] (defScope s_l_generator) := ⟨rfl, rfl, rfl, by decide +kernel, rfl, by decide +kernel, by decide +kernel⟩
structure TGen (K : PySem.W.Frag) (mg : Str → Option Value) : Prop where
  d_l_hash : Has K mg "_law_hash" s_l_hash ["_law_seed", "_law_index"]
  d_l_random : Has K mg "_law_random" s_l_random ["_law_generator_here", "_law_bound"]
  d_l_cell : Has K mg "_law_cell" s_l_cell ["_law_script", "_law_index"]
  d_l_generator : Has K mg "_law_generator" s_l_generator ["_law_script", "_law_index"]
  b_int : mg "int" = none
  b_range : mg "range" = none
  b_len : mg "len" = none
  b_sum : mg "sum" = none
  b_max : mg "max" = none
/-- a generator: three numbers -/
def gen (a s t : Int) : HO := .lst [.int a, .int s, .int t]
local macro_rules | `(tactic| walk_at "rd1") => `(tactic| first
  | with_reducible_and_instances refine ⟨_, rfl, ?_⟩
  | refine ⟨_, rfl, ?_⟩
  | refine ⟨_, _, rfl, rfl, ?_⟩
  | refine .inl ⟨_, rfl, ?_⟩
  | (refine ⟨by first | decide | omega | exact .inl (by decide) | exact .inr (by decide) | exact .inl (by omega) | exact .inr (by omega) | exact ⟨by decide, by decide⟩, ?_⟩))
local macro_rules | `(tactic| walk_at "rd") => `(tactic| repeat walk_at "rd1")
section
variable {P : Program} {w : World} {K : PySem.W.Frag} {mg : Str → Option Value} {base : Heap}
def sp_l_hash : Sp := fun vs H Q _ => ∃ s i : Int, vs = [.int s, .int i] ∧ 0 ≤ i ∧ i < 2 ^ 63 ∧ ∀ r : Int, Q (.int r) H
theorem mod_in {m b : Int} (h : 0 < b) : 0 ≤ m % b ∧ m % b < b := ⟨Int.emod_nonneg _ (by omega), Int.emod_lt_of_pos _ h⟩
theorem cut_first (ns : List Int) : cutV (ns.map V.int) none (some 1) = (ns.take 1).map V.int := by
  unfold cutV
  rw [show HT.sIx (ns.map V.int).length 0 none = 0 from HT.sIx_none _ _, show HT.sIx (ns.map V.int).length (ns.map V.int).length (some 1) = min 1 (ns.map V.int).length from HT.sIx_nat _ _ 1]
  cases ns with
  | nil => rfl
  | cons x r => simp
theorem c_l_hash (T : TGen K mg) : Says P w K mg base 1 "_law_hash" ["_law_seed", "_law_index"] sp_l_hash := by
  refine says T.d_l_hash sc_l_hash (fun vs H Q E h => ?_) (fun f cdv A outer s H vs Q E hr h => ?_)
  · obtain ⟨_, _, rfl, _⟩ := h; rfl
  · refine ⟨_, (pss_cons (ps_set (i := 2) sc_l_hash.nd rfl (.inl rfl) (pe_op op_mod (pe_callTy call_int1 (by rfl) T.b_int (by decide +kernel) (pa_cons (pe_op op_add (pe_op op_add (pe_op op_add (pe_op op_mul (pv 0) pe_int) (pe_op op_mul (pe_op op_mul pe_int (pv 1)) (pv 1))) (pe_op op_mul pe_int (pv 1))) pe_int) pa_nil)) pe_int))
      (pss_cons (ps_set (i := 2) sc_l_hash.nd rfl (.inl rfl) (pe_op op_mod (pe_callTy call_int1 (by rfl) T.b_int (by decide +kernel) (pa_cons (pe_op op_add (pe_op op_add (pe_op op_mul (pv 2) (pv 2)) (pe_op op_mul pe_int (pv 1))) pe_int) pa_nil)) pe_int))
      (pss_one (ps_ret (pe_op op_mod (pe_callTy call_int1 (by rfl) T.b_int (by decide +kernel) (pa_cons (pe_op op_mul (pv 2) pe_int) pa_nil)) pe_int))))), ?_⟩
    obtain ⟨s, i, rfl, h0, h1, q⟩ := h
    walk_at "rd"
    have hm := @mod_in (s * 1140671 + 27644437 * i * i + 131 * i + 19) 2147483629 (by decide)
    generalize (s * 1140671 + 27644437 * i * i + 131 * i + 19) % 2147483629 = m at hm ⊢
    walk_at "rd"
    exact q _

/-- a draw: some number below the bound; the generator goes on -/
@[irreducible] def sp_l_random : Sp := fun vs H Q _ => ∃ (p : Addr) (a s t b : Int), vs = [.ref p, .int b] ∧ H p = some (gen a s t) ∧ 0 < b ∧ b.natAbs < 2 ^ 210 ∧ 0 ≤ t ∧ t < 2 ^ 62 ∧
  ∀ r a' t' : Int, 0 ≤ r → r < b → t ≤ t' → t' ≤ t + 8 → Q (.int r) (upd H p (gen a' s t'))
theorem c_l_random (T : TGen K mg) : Says P w K mg base 2 "_law_random" ["_law_generator_here", "_law_bound"] sp_l_random := by
  refine says T.d_l_random sc_l_random (fun vs H Q E h => ?_) (fun f cdv A outer s H vs Q E hr h => ?_) <;> unfold sp_l_random at h
  · obtain ⟨_, _, _, _, _, rfl, _⟩ := h; rfl
  · refine ⟨_, (pss_cons (ps_if (pt_cmpR op_gt (pe_ix ix_list (pv 0) pe_int (fun _ _ => rfl)) pe_int (nomark _))
        (pss_cons (ps_set (i := 2) sc_l_random.nd rfl (.inl rfl) (pe_op op_mod (pe_callTy call_int1 (by rfl) T.b_int (by decide +kernel) (pa_cons (pe_ix ix_list (pv 0) pe_int (fun _ _ => rfl)) pa_nil)) (pv 1)))
        (pss_cons (ps_asg (pe_op op_fdivA (pe_ix ix_list (pv 0) pe_int (fun _ _ => rfl)) (pv 1)) (pg_sub (pv 0) pe_int set_list))
        (pss_one (ps_ret (pv 2)))))
        pss_nil)
      (pss_cons (ps_set (i := 2) sc_l_random.nd rfl (.inl rfl) pe_int)
      (pss_cons (ps_for PassesOwn.never rfl (pi_range1 (by rfl) T.b_range (pa_cons (pe_op op_add pe_int (pe_op op_fdiv (pe_bits (pv 1)) pe_int)) pa_nil)) (pg_name (i := 3) sc_l_random.nd rfl (.inl rfl))
        (pss_cons (ps_asg (pe_op op_add (pe_ix ix_list (pv 0) pe_int (fun _ _ => rfl)) pe_int) (pg_sub (pv 0) pe_int set_list))
        (pss_one (ps_set (i := 2) sc_l_random.nd rfl (.inl rfl) (pe_op op_add (pe_op op_mul (pv 2) pe_int) (pe_s (c_l_hash T) hr (pa_cons (pe_ix ix_list (pv 0) pe_int (fun _ _ => rfl)) (pa_cons (pe_ix ix_list (pv 0) pe_int (fun _ _ => rfl)) pa_nil))))))))
      (pss_one (ps_ret (pe_op op_mod (pe_callTy call_int1 (by rfl) T.b_int (by decide +kernel) (pa_cons (pv 2) pa_nil)) (pv 1))))))), ?_⟩
    obtain ⟨p, a, s, t, b, rfl, hp, b0, b1, t0, t1, q⟩ := h
    have bl : Builtin.Int.intBits b ≤ 210 := PyProof.Rows.intBits_le b1
    refine ⟨_, rfl, _, _, _, _, rfl, rfl, SqL.of hp, rfl, _, _, rfl, rfl, _, rfl, ite2 (fun _ => ?_) (fun _ => ?_)⟩
    · refine ⟨_, rfl, _, _, _, _, rfl, rfl, SqL.of hp, rfl, .inl ⟨_, rfl, ?_⟩⟩
      refine ⟨_, rfl, _, _, rfl, rfl, b0, ?_⟩
      refine ⟨_, rfl, _, _, _, _, rfl, rfl, SqL.of hp, rfl, _, rfl, _, _, rfl, rfl, ⟨by omega, Nat.lt_of_lt_of_le (PySem.Flt.log2_lt_of (by decide) b1) (by decide)⟩, ?_⟩
      refine ⟨_, rfl, _, _, _, _, rfl, rfl, hp, rfl, ?_⟩
      refine ⟨_, rfl, ?_⟩
      exact q _ _ t (mod_in b0).1 (mod_in b0).2 (by omega) (by omega)
    · refine ⟨_, rfl, _, rfl, _, _, rfl, rfl, ⟨by decide, by decide⟩, _, _, rfl, rfl, _, rfl, ?_, ?_, ?_⟩
      · show -(2 ^ 62) ≤ 1 + ((Builtin.Int.intBits b : Nat) : Int) / 30
        omega
      · show 1 + ((Builtin.Int.intBits b : Nat) : Int) / 30 < 2 ^ 62
        omega
      · refine for_range (lo := 0) (fun i σ H' => ∃ (d t' : Int) (v : Option V), σ = [some (.ref p), some (.int b), some (.int d), v] ∧ t' = t + i ∧ H' = upd H p (gen a s t')) ⟨0, t, none, rfl, by omega, (upd_self hp).symm⟩ ?_ ?_
        · rintro i σ H' hi ⟨d, t', v, rfl, rfl, rfl⟩
          have hi8 : i < (1 + ((Builtin.Int.intBits b : Nat) : Int) / 30).toNat := hi
          refine ⟨_, rfl, _, _, _, _, rfl, rfl, SqL.of upd_same, rfl, _, _, rfl, rfl, ?_⟩
          refine ⟨_, rfl, _, _, _, _, rfl, rfl, upd_same, rfl, ?_⟩
          rw [upd_upd]
          refine ⟨_, rfl, _, _, rfl, rfl, .inr (by decide), ?_⟩
          refine ⟨_, rfl, _, _, _, _, rfl, rfl, SqL.of upd_same, rfl, _, rfl, _, _, _, _, rfl, rfl, SqL.of upd_same, rfl, ?_⟩
          refine ⟨_, _, rfl, by omega, by omega, fun r => ?_⟩
          refine ⟨_, _, rfl, rfl, ?_⟩
          exact ⟨_, t + i + 1, _, rfl, by omega, rfl⟩
        · rintro σ H' ⟨d, t', v, rfl, rfl, rfl⟩
          refine ⟨_, rfl, .inl ⟨_, rfl, ?_⟩⟩
          refine ⟨_, rfl, _, _, rfl, rfl, b0, ?_⟩
          have hn : ((1 + ((Builtin.Int.intBits b : Nat) : Int) / 30).toNat : Int) ≤ 8 := by omega
          exact q _ a _ (mod_in b0).1 (mod_in b0).2 (Int.le_add_of_nonneg_right (Int.natCast_nonneg _)) (Int.add_le_add_left hn t)
def sp_l_cell (K : PySem.W.Frag) : Sp := fun vs H Q _ => ∃ (p : Addr) (ns : List Int) (i : Int), vs = [.ref p, .int i] ∧ SqL K H p (ns.map V.int) ∧ 0 ≤ i ∧ ∀ (r : Int) (H' : Hp), Same H H' → Q (.int r) H'
theorem c_l_cell (T : TGen K mg) : Says P w K mg base 1 "_law_cell" ["_law_script", "_law_index"] (sp_l_cell K) := by
  refine says T.d_l_cell sc_l_cell (fun vs H Q E h => ?_) (fun f cdv A outer s H vs Q E hr h => ?_)
  · obtain ⟨_, _, _, rfl, _⟩ := h; rfl
  · refine ⟨_, (pss_cons (ps_if (pt_cmpR op_lt (pv 1) (pe_callB call_len_seq (by rfl) T.b_len (by decide +kernel) (pa_cons (pv 0) pa_nil)) (nomark _))
        (pss_one (ps_ret (pe_ix ix_list (pv 0) (pv 1) (fun _ _ => rfl))))
        pss_nil)
      (pss_one (ps_ret (pe_op op_mod (pe_callB (cr_sum rfl) (by rfl) T.b_sum (by decide +kernel) (pa_cons (pe_slice sl_list (pv 0) po_none (po_some pe_int)) pa_nil)) pe_int)))), ?_⟩
    obtain ⟨p, ns, i, rfl, hp, i0, q⟩ := h
    refine ⟨_, rfl, _, rfl, _, _, rfl, .inl hp, _, _, rfl, rfl, _, rfl, ite2 (fun lt => ?_) (fun _ => ?_)⟩
    · have lt2 : i < ((ns.map V.int).length : Int) := of_decide_eq_true lt
      rw [List.length_map] at lt2
      have e : atI (ns.map V.int) i = some (.int (ns[i.toNat]'(by omega))) := by
        have z := atI_nat (xs := ns.map V.int) (j := i.toNat) (v := .int (ns[i.toNat]'(by omega))) (by rw [List.getElem?_map, List.getElem?_eq_getElem (by omega)]; rfl)
        rwa [Int.toNat_of_nonneg i0] at z
      refine ⟨_, rfl, _, rfl, _, _, _, _, rfl, rfl, hp, e, ?_⟩
      exact q _ _ (Same.refl _)
    · refine ⟨_, rfl, 1, rfl, _, _, rfl, hp, fun l hl => ?_⟩
      refine ⟨_, (ns.take 1), rfl, ?_, ?_⟩
      · rw [← cut_first]
        exact SqL.of upd_same
      · refine ⟨_, _, rfl, rfl, (show (0 : Int) < 1000003 by decide), ?_⟩
        exact q _ _ (same_new hl)
/-- a new generator -/
def sp_l_generator (K : PySem.W.Frag) : Sp := fun vs H Q _ => ∃ (p : Addr) (ns : List Int) (i : Int), vs = [.ref p, .int i] ∧ SqL K H p (ns.map V.int) ∧ 0 ≤ i ∧ i < 1000 ∧
  ∀ (g : Addr) (a s : Int) (H' : Hp), H g = none → Same H H' → H' g = some (gen a s (1000 * i)) → Q (.ref g) H'
theorem c_l_generator (T : TGen K mg) : Says P w K mg base 2 "_law_generator" ["_law_script", "_law_index"] (sp_l_generator K) := by
  refine says T.d_l_generator sc_l_generator (fun vs H Q E h => ?_) (fun f cdv A outer s H vs Q E hr h => ?_)
  · obtain ⟨_, _, _, rfl, _⟩ := h; rfl
  · refine ⟨_, (pss_cons (ps_set (i := 2) sc_l_generator.nd rfl (.inl rfl) (pe_s (c_l_cell T) hr (pa_cons (pv 0) (pa_cons (pv 1) pa_nil))))
      (pss_one (ps_ret (pe_lst (pa_cons (pe_op op_mod (pe_callTy call_int1 (by rfl) T.b_int (by decide +kernel) (pa_cons (pe_callB (call_max2 rfl) (by rfl) T.b_max (by decide +kernel) (pa_cons (pe_op op_sub (pv 2) (pe_op op_powA pe_int pe_int)) (pa_cons pe_int pa_nil))) pa_nil)) (pe_op op_powA (pe_op op_powA pe_int pe_int) pe_int)) (pa_cons (pe_op op_mod (pe_callTy call_int1 (by rfl) T.b_int (by decide +kernel) (pa_cons (pv 2) pa_nil)) pe_int) (pa_cons (pe_op op_mul pe_int (pv 1)) pa_nil))))))), ?_⟩
    obtain ⟨p, ns, i, rfl, hp, i0, i1, q⟩ := h
    refine ⟨_, rfl, _, rfl, _, _, _, rfl, hp, i0, fun r H1 s1 => ?_⟩
    refine ⟨_, rfl, _, _, rfl, rfl, ⟨by decide, by decide +kernel⟩, _, _, rfl, rfl, ?_⟩
    refine ⟨_, _, rfl, .inl ⟨_, rfl, ?_⟩⟩
    refine ⟨_, _, rfl, rfl, ⟨by decide, by decide +kernel⟩, _, _, rfl, rfl, ⟨by decide, by decide +kernel⟩, ?_⟩
    refine ⟨_, _, rfl, rfl, (show (0 : Int) < ((10 ^ Int.toNat 60) ^ Int.toNat 10) by decide +kernel), ?_⟩
    refine ⟨_, rfl, .inl ⟨_, rfl, _, _, rfl, rfl, (show (0 : Int) < 2147483647 by decide), ?_⟩⟩
    refine ⟨_, rfl, _, _, rfl, rfl, .inl (by decide), ?_⟩
    refine ⟨(show 3 ≤ sizeLine by decide), fun g hg => ?_⟩
    exact q g _ _ _ (s1.free hg) (s1.trans (same_new hg)) upd_same
end
end Cb
set_option Elab.async false
set_option linter.all false
set_option maxRecDepth 100000
set_option maxHeartbeats 4000000
namespace Cb
open PySem PySem.Spec PyProof.Rows L2
abbrev s_l_drawn_kinds : Stmt := topS 37
theorem sc_l_drawn_kinds : FnScope ["_law_generator_here", "_law_names", "_law_every", "_law_found", "_law_at", "_law_name", "_law_makers", "_law_turn", "_law_parts", "_law_wanted", "_law_place"] ["_law_generator_here"] (defScope s_l_drawn_kinds) := ⟨rfl, rfl, rfl, by decide +kernel, rfl, by decide +kernel, by decide +kernel⟩
/-! ### what is drawn -/
def NamesOk (ns : List Str) : Prop := ns = (["list"] : List Str) ∨ ns = (["list", "tree"] : List Str) ∨ ns = (["list", "tree", "pair"] : List Str)
def evry (ns : List Str) : List Str := (["num", "flag", "step"] : List Str) ++ ns
def hd1 (n : Str) : Str := ⟨#[n.cps.getD 0 0]⟩
def abc (j : Nat) : Str := ⟨#[("abcd" : Str).cps.getD j 0]⟩
def rest1 (n : Str) : Nat → List (List Str) → List PyData
  | _, [] => []
  | j, zs :: r => .tuple [.str (hd1 n ++ abc j), .list (zs.map .str)] :: rest1 n (j + 1) r
theorem rest1_app (n : Str) : ∀ (zss : List (List Str)) (j : Nat) (zs : List Str), rest1 n j (zss ++ [zs]) = rest1 n j zss ++ [.tuple [.str (hd1 n ++ abc (j + zss.length)), .list (zs.map .str)]]
  | [], j, zs => rfl
  | z :: zss, j, zs => by
    show _ :: rest1 n (j + 1) (zss ++ [zs]) = _ :: (rest1 n (j + 1) zss ++ _)
    rw [rest1_app n zss (j + 1) zs, List.length_cons, show j + (zss.length + 1) = j + 1 + zss.length by omega]
def mk1 (n : Str) (z : List Str) (zss : List (List Str)) : List PyData := .tuple [.str (hd1 n ++ "zero"), .list (z.map .str)] :: rest1 n 0 zss
/-- a drawn choice kind: its name, the parts of its first constructor, those of the others -/
abbrev Ch := Str × List Str × List (List Str)
def ch (c : Ch) : PyData := .tuple [.str "choice", .str c.1, .list (mk1 c.1 c.2.1 c.2.2)]
def ChOk (E : List Str) (c : Ch) : Prop := (c.2.1 = (["num"] : List Str) ∨ c.2.1 = []) ∧ c.2.2.length ≤ 3 ∧ ∀ zs ∈ c.2.2, zs.length ≤ 4 ∧ ∀ z ∈ zs, z ∈ E
def stepD (wanted : List Str) : PyData := .tuple [.str "calls", .str "step", .list (wanted.map .str), .str "num"]
structure Drawn (L : List Ch) (wanted : List Str) : Prop where
  nm : NamesOk (L.map (·.1))
  ok : ∀ c ∈ L, ChOk (evry (L.map (·.1))) c
  wl : wanted.length ≤ 2
  wm : ∀ z ∈ wanted, z ∈ evry (L.map (·.1))
/-! ### the generator goes on -/
def Gn (g : Addr) (s t0 : Int) (n : Nat) (H : Hp) : Prop := ∃ a t : Int, H g = some (gen a s t) ∧ t0 ≤ t ∧ t ≤ t0 + n
theorem Gn.mono {g : Addr} {s t0 : Int} {n m : Nat} {H : Hp} (G : Gn g s t0 n H) (h : n ≤ m) : Gn g s t0 m H := by
  obtain ⟨a, t, e, l1, l2⟩ := G
  exact ⟨a, t, e, l1, by omega⟩
theorem Gn.some {g : Addr} {s t0 : Int} {n : Nat} {H : Hp} (G : Gn g s t0 n H) {p : Addr} (h : H p = none) : p ≠ g := by
  obtain ⟨a, t, e, _⟩ := G
  exact (ne_of_none e h).symm
theorem Gn.new {g : Addr} {s t0 : Int} {n : Nat} {H : Hp} (G : Gn g s t0 n H) {p : Addr} {o : HO} (h : H p = none) : Gn g s t0 n (upd H p o) := by
  obtain ⟨a, t, e, l⟩ := G
  exact ⟨a, t, same_new h _ _ e, l⟩
theorem Gn.off {g : Addr} {s t0 : Int} {n : Nat} {H : Hp} (G : Gn g s t0 n H) {p : Addr} {o : HO} (h : g ≠ p) : Gn g s t0 n (upd H p o) := by
  obtain ⟨a, t, e, l⟩ := G
  exact ⟨a, t, (upd_ne h).trans e, l⟩
/-- a draw -/
theorem draw {g : Addr} {s t0 : Int} {n : Nat} {H : Hp} {b : Int} {Q : VK} {E : XK} (G : Gn g s t0 n H) (h0 : 0 ≤ t0) (h1 : t0 + n < 2 ^ 62) (b0 : 0 < b) (b1 : b.natAbs < 2 ^ 210)
    (q : ∀ (r : Int) (H' : Hp), 0 ≤ r → r < b → Gn g s t0 (n + 8) H' → Keep [g] H H' → Q (.int r) H') : sp_l_random [.ref g, .int b] H Q E := by
  obtain ⟨a, t, e, l1, l2⟩ := G
  unfold sp_l_random
  refine ⟨g, a, s, t, b, rfl, e, b0, b1, by omega, by omega, fun r a' t' r0 r1 t2 t3 => ?_⟩
  exact q r _ r0 r1 ⟨a', t', upd_same, by omega, by omega⟩ (keep_upd (by simp))
/-- a row of drawn texts -/
theorem lc_draws {g D : Addr} {s t0 : Int} {n0 m : Nat} {E : List Str} {te : TE} {i : Nat} {σ : L2.St} {H1 : Hp} {Qd : Hp → Prop} (hD : H1 D = none) (G : Gn g s t0 n0 H1) (small : m ≤ 10)
    (hs : ∀ (x : V) (H' : Hp) (k : Nat) (Q : VK), k ≤ n0 + 8 * m → Gn g s t0 k H' → Keep [g] H1 H' → (∀ z H'', z ∈ E → Keep [g] H' H'' → Gn g s t0 (k + 8) H'' → Q (.str z) H'') → te ((wipe σ [i]).set i (some x)) H' Q)
    (hd : ∀ (H' : Hp) (zs : List Str), zs.length = m → (∀ z ∈ zs, z ∈ E) → Keep [g] H1 H' → H' D = some (.lst (zs.map V.str)) → Gn g s t0 (n0 + 8 * m) H' → Qd H') :
    ∃ W : Nat → Nat → Hp → Prop, (∃ m, W 0 m (upd H1 D (.lst []))) ∧ ∀ k m' H, W k m' H →
      ((Itr 0 m).stop k H ∧ Qd H) ∨ ((Itr 0 m).go k H ∧ ∃ Nx : Hp → Prop, (∀ H', Nx H' → ∃ m'', m'' < m' ∧ W (k + 1) m'' H') ∧ ∀ x H', (Itr 0 m).yld k H x H' → gName i x (wipe σ [i]) H' fun σ2 H2 => wipe σ2 [i] = wipe σ [i] ∧ tYes σ2 H2 fun b H3 =>
        if b = true then te σ2 H3 fun y H4 => ∃ acc, H4 D = some (.lst acc) ∧ acc.length < sizeLine ∧ Nx (upd H4 D (.lst (acc ++ [y]))) else Nx H3) := by
  have ng : g ≠ D := (G.some hD).symm
  refine lc_it walk_range (fun j H' => Keep [g] H1 H' ∧ Gn g s t0 (n0 + 8 * j) H' ∧ ∃ zs : List Str, zs.length = j ∧ (∀ z ∈ zs, z ∈ E) ∧ H' D = some (.lst (zs.map V.str))) ⟨keep_new hD, G.off ng, [], rfl, fun z hz => absurd hz List.not_mem_nil, upd_same⟩ (fun _ _ _ _ => trivial) ?_ ?_
  · rintro j x H H' hj ⟨k1, g1, zs, lz, mz, hd1⟩ ⟨rfl, rfl⟩
    refine ⟨?_, ?_⟩
    · show ((wipe σ [i]).set i (some _)).set i none = wipe σ [i]
      show ((σ.set i none).set i (some _)).set i none = σ.set i none
      rw [List.set_set, List.set_set]
    · show te ((wipe σ [i]).set i (some _)) H' _
      refine hs _ H' _ _ (by omega) g1 k1 ?_
      intro z H2 hz k2 g2
      have nD : D ∉ [g] := by simp [Ne.symm ng]
      have e2 := k2 _ _ nD hd1
      refine ⟨_, e2, ?_, ?_, ?_, zs ++ [z], ?_, ?_, ?_⟩
      · rw [List.length_map, lz]
        exact small1000 (by omega)
      · intro b o n e
        rw [upd_ne (ne_of_none e hD)]
        exact k2 b o n (k1 b o n e)
      · exact (g2.mono (by omega)).off ng
      · rw [List.length_append, lz]
        rfl
      · intro y hy
        rcases List.mem_append.mp hy with hy | hy
        · exact mz y hy
        · rw [List.mem_singleton.mp hy]
          exact hz
      · rw [upd_same, List.map_append]
        rfl
  · rintro H' ⟨k1, g1, zs, lz, mz, hd1⟩
    exact hd H' zs lz mz k1 hd1 g1
theorem cut_names {r : Int} (h0 : 0 ≤ r) (h1 : r < 3) : ∃ ns : List Str, NamesOk ns ∧ cutV [.str "list", .str "tree", .str "pair"] none (some (1 + r)) = ns.map V.str := by
  have h : r = 0 ∨ r = 1 ∨ r = 2 := by omega
  rcases h with rfl | rfl | rfl
  · exact ⟨["list"], .inl rfl, by decide⟩
  · exact ⟨["list", "tree"], .inr (.inl rfl), by decide⟩
  · exact ⟨["list", "tree", "pair"], .inr (.inr rfl), by decide⟩
theorem names_len {ns : List Str} (h : NamesOk ns) : ns.length ≤ 3 := by
  rcases h with rfl | rfl | rfl <;> decide
theorem names_hd {ns : List Str} (h : NamesOk ns) {n : Str} (m : n ∈ ns) : n.length = 4 ∧ n.cps[0]? = some (n.cps.getD 0 0) := by
  have : n = "list" ∨ n = "tree" ∨ n = "pair" := by
    rcases h with rfl | rfl | rfl
    · exact .inl (List.mem_singleton.mp m)
    · rcases List.mem_cons.mp m with rfl | m
      · exact .inl rfl
      · exact .inr (.inl (List.mem_singleton.mp m))
    · rcases List.mem_cons.mp m with rfl | m
      · exact .inl rfl
      · rcases List.mem_cons.mp m with rfl | m
        · exact .inr (.inl rfl)
        · exact .inr (.inr (List.mem_singleton.mp m))
  rcases this with rfl | rfl | rfl <;> decide
end Cb
set_option Elab.async false
set_option linter.all false
set_option maxRecDepth 100000
set_option maxHeartbeats 8000000
namespace Cb
open PySem PySem.Spec PyProof.Rows L2
structure TDraw (K : PySem.W.Frag) (w : World) (mg : Str → Option Value) : Prop where
  tk : TKind K w mg
  tg : TGen K mg
  d_l_drawn_kinds : Has K mg "_law_drawn_kinds" s_l_drawn_kinds ["_law_generator_here"]
theorem Keep.free {S : List Addr} {H H' : Hp} (k : Keep S H H') {p : Addr} (h : H' p = none) (n : p ∉ S) : H p = none := by
  cases e : H p with
  | none => rfl
  | some o =>
    rw [k p o n e] at h
    cases h
theorem mk1_app (n : Str) (z : List Str) (zss : List (List Str)) (zs : List Str) : mk1 n z (zss ++ [zs]) = mk1 n z zss ++ [.tuple [.str (hd1 n ++ abc zss.length), .list (zs.map .str)]] := by
  unfold mk1
  rw [rest1_app, Nat.zero_add]
  rfl
theorem rest1_len (n : Str) : ∀ (zss : List (List Str)) (j : Nat), (rest1 n j zss).length = zss.length
  | [], _ => rfl
  | _ :: r, j => by
    show (rest1 n (j + 1) r).length + 1 = r.length + 1
    rw [rest1_len n r]
theorem DTs.snoc {H : Hp} : ∀ {xs : List V} {ds : List PyData} {x : V} {d : PyData}, DTs H xs ds → DT H x d → DTs H (xs ++ [x]) (ds ++ [d])
  | _, [], _, _, h, a => by cases h; exact .cons a .nil
  | _, e :: ds, _, _, h, a => by
    cases h with
    | cons b r => exact .cons b (DTs.snoc (ds := ds) r a)
theorem DTs.app {H : Hp} : ∀ {ds es : List PyData} {xs ys : List V}, DTs H xs ds → DTs H ys es → DTs H (xs ++ ys) (ds ++ es)
  | [], _, _, _, h, a => by cases h; exact a
  | e :: ds, _, _, _, h, a => by
    cases h with
    | cons b r => exact .cons b (DTs.app (ds := ds) r a)
section
variable {P : Program} {w : World} {K : PySem.W.Frag} {mg : Str → Option Value} {base : Heap}
def sp_drawn : Sp := fun vs H Q _ => ∃ (g : Addr) (a s t : Int), vs = [.ref g] ∧ H g = some (gen a s t) ∧ 0 ≤ t ∧ t < 2 ^ 60 ∧
  ∀ (p : Addr) (xs : List V) (L : List Ch) (wanted : List Str) (H' : Hp), Drawn L wanted → p ≠ g → H p = none → H' p = some (.lst xs) → DTs (hid [g] H') xs (L.map ch ++ [stepD wanted]) → Keep [g] H H' → Gn g s t 2000 H' → Q (.ref p) H'
theorem c_l_drawn_kinds (T : TDraw K w mg) : Says P w K mg base 3 "_law_drawn_kinds" ["_law_generator_here"] sp_drawn := by
  refine says T.d_l_drawn_kinds sc_l_drawn_kinds (fun vs H Q E h => ?_) (fun f cdv A outer s H vs Q E hr h => ?_)
  · obtain ⟨_, _, _, _, rfl, _⟩ := h; rfl
  refine ⟨_, (pss_cons (ps_set (i := 1) sc_l_drawn_kinds.nd rfl (.inl rfl) (pe_slice sl_list (pe_lst (pa_cons pe_str (pa_cons pe_str (pa_cons pe_str pa_nil)))) po_none (po_some (pe_op op_add pe_int (pe_s (c_l_random T.tg) hr (pa_cons (pv 0) (pa_cons pe_int pa_nil)))))))
    (pss_cons (ps_asg (pe_tup (pa_cons (pe_op op_cat (pe_lst (pa_cons pe_str (pa_cons pe_str (pa_cons pe_str pa_nil)))) (pv 1)) (pa_cons (pe_lst pa_nil) pa_nil))) (pg_tup rfl (pgs_cons (pg_name (i := 2) sc_l_drawn_kinds.nd rfl (.inr rfl)) (pgs_cons (pg_name (i := 3) sc_l_drawn_kinds.nd rfl (.inl rfl)) pgs_nil))))
    (pss_cons (ps_for PassesOwn.never rfl (pi_enum (by rfl) T.tk.b_enumerate (pa_cons (pv 1) pa_nil)) (pg_tup rfl (pgs_cons (pg_name (i := 4) sc_l_drawn_kinds.nd rfl (.inl rfl)) (pgs_cons (pg_name (i := 5) sc_l_drawn_kinds.nd rfl (.inl rfl)) pgs_nil)))
        (pss_cons (ps_set (i := 6) sc_l_drawn_kinds.nd rfl (.inl rfl) (pe_lst (pa_cons (pe_tup (pa_cons (pe_op op_add_str (pe_item_str (pv 5) pe_int (fun _ _ => rfl)) pe_str) (pa_cons (pe_ix ix_list (pe_lst (pa_cons (pe_lst (pa_cons pe_str pa_nil)) (pa_cons (pe_lst pa_nil) pa_nil))) (pe_s (c_l_random T.tg) hr (pa_cons (pv 0) (pa_cons pe_int pa_nil))) (fun _ _ => rfl)) pa_nil))) pa_nil)))
        (pss_cons (ps_for PassesOwn.never rfl (pi_range1 (by rfl) T.tg.b_range (pa_cons (pe_s (c_l_random T.tg) hr (pa_cons (pv 0) (pa_cons pe_int pa_nil))) pa_nil)) (pg_name (i := 7) sc_l_drawn_kinds.nd rfl (.inl rfl))
            (pss_cons (ps_setLc (i := 8) (own := [("_law_place", 10)]) (g := gName 10) (tt := tYes) rfl sc_l_drawn_kinds.nd rfl rfl (sw_true rfl rfl rfl (by decide +kernel)) (pi_range1 (by rfl) T.tg.b_range (pa_cons (pe_s (c_l_random T.tg) hr (pa_cons (pv 0) (pa_cons pe_int pa_nil))) pa_nil)) (blkOk_by (N := ["_law_generator_here", "_law_names", "_law_every", "_law_found", "_law_at", "_law_name", "_law_makers", "_law_turn", "_law_parts", "_law_wanted", "_law_place"]) (sc := defScope s_l_drawn_kinds) (own := [("_law_place", 10)]) (by decide +kernel)) (fun _ _ _ _ _ => pg_name (i := 10) sc_l_drawn_kinds.nd rfl (Or.inl rfl)) (fun _ _ _ _ _ => pts_nil) (fun _ _ _ _ _ => (pe_ix (r := rIxL K) ix_list (pv 2) (pe_s (c_l_random T.tg) hr (pa_cons (pv 0) (pa_cons (pe_callB (r := fun xs H Q => ∃ p ys, xs = [.ref p] ∧ (SqL K H p ys ∨ SqT K H p ys) ∧ Q (.int ys.length) H) call_len_seq (by rfl) T.tg.b_len (by decide +kernel) (pa_cons (pv 2) pa_nil)) pa_nil))) (fun _ _ => rfl))))
            (pss_one (ps_expr (pe_bm PySem.F.plainAttrs_list PySem.F.slot_list_append PySem.F.type_list_append mt_append (pv 6) (pa_cons (pe_tup (pa_cons (pe_op op_add_str (pe_item_str (pv 5) pe_int (fun _ _ => rfl)) (pe_item_str pe_str (pv 7) (fun _ _ => rfl))) (pa_cons (pv 8) pa_nil))) pa_nil))))))
        (pss_one (ps_expr (pe_bm PySem.F.plainAttrs_list PySem.F.slot_list_append PySem.F.type_list_append mt_append (pv 3) (pa_cons (pe_tup (pa_cons pe_str (pa_cons (pv 5) (pa_cons (pv 6) pa_nil)))) pa_nil)))))))
    (pss_cons (ps_setLc (i := 9) (own := [("_law_place", 10)]) (g := gName 10) (tt := tYes) rfl sc_l_drawn_kinds.nd rfl rfl (sw_true rfl rfl rfl (by decide +kernel)) (pi_range1 (by rfl) T.tg.b_range (pa_cons (pe_s (c_l_random T.tg) hr (pa_cons (pv 0) (pa_cons pe_int pa_nil))) pa_nil)) (blkOk_by (N := ["_law_generator_here", "_law_names", "_law_every", "_law_found", "_law_at", "_law_name", "_law_makers", "_law_turn", "_law_parts", "_law_wanted", "_law_place"]) (sc := defScope s_l_drawn_kinds) (own := [("_law_place", 10)]) (by decide +kernel)) (fun _ _ _ _ _ => pg_name (i := 10) sc_l_drawn_kinds.nd rfl (Or.inl rfl)) (fun _ _ _ _ _ => pts_nil) (fun _ _ _ _ _ => (pe_ix (r := rIxL K) ix_list (pv 2) (pe_s (c_l_random T.tg) hr (pa_cons (pv 0) (pa_cons (pe_callB (r := fun xs H Q => ∃ p ys, xs = [.ref p] ∧ (SqL K H p ys ∨ SqT K H p ys) ∧ Q (.int ys.length) H) call_len_seq (by rfl) T.tg.b_len (by decide +kernel) (pa_cons (pv 2) pa_nil)) pa_nil))) (fun _ _ => rfl))))
    (pss_one (ps_ret (pe_op op_cat (pv 3) (pe_lst (pa_cons (pe_tup (pa_cons pe_str (pa_cons pe_str (pa_cons (pv 9) (pa_cons pe_str pa_nil))))) pa_nil))))))))), ?_⟩
  obtain ⟨g, a, s0, t, rfl, hg, t0, t1, q⟩ := h
  have G0 : Gn g s0 t 0 H := ⟨a, t, hg, by omega, by omega⟩
  -- names
  refine ⟨(show 3 ≤ sizeLine by decide), fun l0 hl0 => ?_⟩
  refine ⟨_, rfl, draw (G0.new hl0) t0 (by omega) (by decide) (by decide) fun r H1 r0 r1 G1 k1 => ?_⟩
  have nl0 : l0 ≠ g := G0.some hl0
  refine ⟨_, _, rfl, rfl, _, rfl, _, _, rfl, SqL.of (k1 _ _ (by simp [nl0]) upd_same), fun n0 hn0 => ?_⟩
  obtain ⟨ns, nok, ec⟩ := cut_names r0 r1
  rw [ec]
  have nlen := names_len nok
  have K1 : Keep [g] H (upd H1 n0 (.lst (ns.map V.str))) := ((keep_new hl0).trans k1).trans (keep_new hn0)
  have G2 : Gn g s0 t 8 (upd H1 n0 (.lst (ns.map V.str))) := (G1.mono (by omega)).new hn0
  -- every, found
  refine ⟨(show 3 ≤ sizeLine by decide), fun l1 hl1 => ?_⟩
  refine ⟨_, rfl, l1, n0, _, _, rfl, rfl, upd_same, same_new hl1 _ _ upd_same, (show 3 + (ns.map V.str).length ≤ sizeLine by rw [List.length_map]; exact Nat.le_of_lt (small1000 (by omega))), fun ev hev => ?_⟩
  refine ⟨(show 0 ≤ sizeLine by decide), fun f0 hf0 => ?_⟩
  refine ⟨(show 2 ≤ sizeLine by decide), fun tt htt => ?_⟩
  refine ⟨tt, [.ref ev, .ref f0], rfl, SqT.of upd_same, rfl, .ref ev, _, rfl, .ref f0, [], rfl, rfl, ?_⟩
  have eE : ([.str "num", .str "flag", .str "step"] : List V) ++ ns.map V.str = (evry ns).map V.str := rfl
  rw [eE] at hf0 htt ⊢
  generalize hHs : upd (upd (upd (upd (upd H1 n0 (.lst (ns.map V.str))) l1 (.lst [.str "num", .str "flag", .str "step"])) ev (.lst ((evry ns).map V.str))) f0 (.lst [])) tt (.tup [.ref ev, .ref f0]) = Hs
  have s5 : Same (upd H1 n0 (.lst (ns.map V.str))) Hs := by
    rw [← hHs]
    exact ((((same_new hl1).trans (same_new hev)).trans (same_new hf0)).trans (same_new htt))
  have hev2 : Hs ev = some (.lst ((evry ns).map V.str)) := by
    rw [← hHs]
    exact same_new htt _ _ (same_new hf0 _ _ upd_same)
  have hf2 : Hs f0 = some (.lst []) := by
    rw [← hHs]
    exact same_new htt _ _ upd_same
  have hn2 : Hs n0 = some (.lst (ns.map V.str)) := s5 _ _ upd_same
  have K5 : Keep [g] H Hs := K1.trans (fun b o _ e => s5 b o e)
  have G5 : Gn g s0 t 8 Hs := by
    obtain ⟨a', t', e, l⟩ := G2
    exact ⟨a', t', s5 _ _ e, l⟩
  have ngf : f0 ≠ g := by
    have hz := hf0
    obtain ⟨a', t', e, _⟩ := G2
    exact (ne_of_none (same_new hev _ _ (same_new hl1 _ _ e)) hz).symm
  have hfH : H f0 = none := (K1.trans ((keep_new hl1).trans (keep_new hev))).free hf0 (by simp [ngf])
  have nfe : f0 ≠ ev := (ne_of_none upd_same hf0).symm
  have nfn : f0 ≠ n0 := (ne_of_none (same_new hev _ _ (same_new hl1 _ _ upd_same)) hf0).symm
  have nge : ev ≠ g := by
    obtain ⟨a', t', e, _⟩ := G2
    exact (ne_of_none (same_new hl1 _ _ e) hev).symm
  have ngn : n0 ≠ g := by
    obtain ⟨a', t', e, _⟩ := G1
    exact (ne_of_none e hn0).symm
  clear hHs
  refine ⟨_, rfl, n0, _, rfl, SqL.of hn2, for_it (walk_enum (K := K) (a := n0) (xs := ns.map V.str)) (fun i σ H' => (∃ x4 x5 x6 x7 x8 : Option V, σ = [some (.ref g), some (.ref n0), some (.ref ev), some (.ref f0), x4, x5, x6, x7, x8, none, none]) ∧
    Gn g s0 t (8 + 300 * i) H' ∧ Keep [g, f0] Hs H' ∧ ∃ (L : List Ch) (xs : List V), L.map (·.1) = ns.take i ∧ (∀ c ∈ L, ChOk (evry ns) c) ∧ H' f0 = some (.lst xs) ∧ DTs (hid [g, f0] H') xs (L.map ch))
    ⟨⟨none, none, none, none, none, rfl⟩, G5, Keep.refl, [], [], rfl, fun c hc => absurd hc List.not_mem_nil, hf2, .nil⟩ (fun i σ H' _ h => SqL.of (h.2.2.1 _ _ (by simp [ngn, nfn.symm]) hn2)) ?_ ?_⟩
  · rintro i x σ H2 H3 hi ⟨⟨x4, x5, x6, x7, x8, rfl⟩, Gi, ki, L, xs, eL, okL, hf, dts⟩ ⟨tp, xi, xd, rfl, htp, rfl, ei, ed⟩
    rw [List.length_map] at hi
    have hni : xd = .str ns[i] := by
      have ed2 : (ns.map V.str)[i]? = some xd := ed
      rw [List.getElem?_map, List.getElem?_eq_getElem hi] at ed2
      exact (Option.some.inj ed2).symm
    subst hni
    obtain rfl : V.int (i : Nat) = xi := Option.some.inj ei
    obtain ⟨len4, at0⟩ := names_hd nok (List.getElem_mem hi)
    refine ⟨tp, _, rfl, SqT.of upd_same, rfl, .int (i : Nat), _, rfl, .str ns[i], [], rfl, rfl, ?_⟩
    have Gt := Gi.new (o := .tup [.int (i : Nat), .str ns[i]]) htp
    -- makers = [(name[0] + "zero", ..)]
    refine ⟨_, rfl, _, 0, _, rfl, rfl, by decide, by decide, by omega, at0, ?_⟩
    refine ⟨_, _, rfl, rfl, (show 1 + 4 ≤ sizeLine by decide), ?_⟩
    refine ⟨(show 1 ≤ sizeLine by decide), fun la hla => ?_⟩
    refine ⟨(show 0 ≤ sizeLine by decide), fun lb hlb => ?_⟩
    refine ⟨(show 2 ≤ sizeLine by decide), fun lc hlc => ?_⟩
    refine ⟨_, rfl, draw (((Gt.new hla).new hlb).new hlc) t0 (by omega) (by decide) (by decide) fun r2 H4 p0 p1 G4 k4 => ?_⟩
    have nla : la ≠ g := Gt.some hla
    have nlb : lb ≠ g := (Gt.new hla).some hlb
    have nlc : lc ≠ g := ((Gt.new hla).new hlb).some hlc
    obtain ⟨z, pz, zok, epz, hz4⟩ : ∃ (z : List Str) (pz : Addr), (z = (["num"] : List Str) ∨ z = []) ∧ atI [V.ref la, V.ref lb] r2 = some (.ref pz) ∧ (H4 pz = some (.lst (z.map V.str)) ∧ pz ≠ g ∧ pz ≠ f0) := by
      have hr2 : r2 = 0 ∨ r2 = 1 := by omega
      rcases hr2 with rfl | rfl
      · refine ⟨["num"], la, .inl rfl, rfl, k4 _ _ (by simp [nla]) (same_new hlc _ _ (same_new hlb _ _ upd_same)), nla, ?_⟩
        exact (ne_of_none (same_new htp _ _ hf) hla).symm
      · refine ⟨[], lb, .inr rfl, rfl, k4 _ _ (by simp [nlb]) (same_new hlc _ _ upd_same), nlb, ?_⟩
        exact (ne_of_none (same_new hla _ _ (same_new htp _ _ hf)) hlb).symm
    refine ⟨lc, _, _, .ref pz, rfl, rfl, SqL.of (k4 _ _ (by simp [nlc]) upd_same), epz, ?_⟩
    refine ⟨(show 2 ≤ sizeLine by decide), fun tm htm => ?_⟩
    refine ⟨(show 1 ≤ sizeLine by decide), fun m0 hm0 => ?_⟩
    have hf4 : H4 f0 = some (.lst xs) := k4 _ _ (by simp [ngf]) (same_new hlc _ _ (same_new hlb _ _ (same_new hla _ _ (same_new htp _ _ hf))))
    have K4 : Keep [g] H2 H4 := (((keep_new htp).trans (keep_new hla)).trans ((keep_new hlb).trans (keep_new hlc))).trans k4
    generalize hHm : upd (upd H4 tm (.tup [.str ((⟨#[ns[i].cps.getD 0 0]⟩ : Str) ++ "zero"), .ref pz])) m0 (.lst [.ref tm]) = Hm
    have s6 : Same H4 Hm := by
      rw [← hHm]
      exact (same_new htm).trans (same_new hm0)
    have K6 : Keep [g] H2 Hm := K4.trans (fun b o _ e => s6 b o e)
    have hm6 : Hm m0 = some (.lst [.ref tm]) := by
      rw [← hHm]
      exact upd_same
    have htm6 : Hm tm = some (.tup [.str (hd1 ns[i] ++ "zero"), .ref pz]) := by
      rw [← hHm]
      exact same_new hm0 _ _ upd_same
    have G6 : Gn g s0 t (8 + 300 * i + 8) Hm := by
      obtain ⟨a', t', e, l⟩ := G4
      exact ⟨a', t', s6 _ _ e, l⟩
    have nm4 : H4 m0 = none := by
      have := hm0
      by_cases e : m0 = tm
      · rw [e, upd_same] at this
        cases this
      · rwa [upd_ne e] at this
    have nmg : m0 ≠ g := G4.some nm4
    have nmf : m0 ≠ f0 := (ne_of_none hf4 nm4).symm
    have nmt : m0 ≠ tm := (ne_of_none upd_same hm0).symm
    have nmz : m0 ≠ pz := (ne_of_none hz4.1 nm4).symm
    have ntg : tm ≠ g := G4.some htm
    have ntf : tm ≠ f0 := (ne_of_none hf4 htm).symm
    have nm2 : H2 m0 = none := by
      cases e : H2 m0 with
      | none => rfl
      | some o =>
        rw [K4 _ _ (by simp [nmg]) e] at nm4
        cases nm4
    have dm6 : DTs (hid [g, f0, m0] Hm) [.ref tm] (mk1 ns[i] z []) := by
      refine .cons (.tup (hid_at (by simp [ntg, ntf, nmt.symm]) htm6) (.cons (.str _) (.cons (.lst (hid_at (by simp [hz4.2.1, hz4.2.2, nmz.symm]) (s6 _ _ hz4.1)) (strs_dt z)) .nil))) .nil
    clear hHm
    -- for turn in range(random(4))
    refine ⟨_, rfl, draw G6 t0 (by omega) (by decide) (by decide) fun r3 H7 u0 u1 G7 k7 => ?_⟩
    have K7 : Keep [g] H2 H7 := K6.trans k7
    have hm7 : H7 m0 = some (.lst [.ref tm]) := k7 _ _ (by simp [nmg]) hm6
    have dm7 : DTs (hid [g, f0, m0] H7) [.ref tm] (mk1 ns[i] z []) := dm6.same ((k7.mono (S' := [g, f0, m0]) (fun b hb => by simp at hb; simp [hb])).hid) _
    have hf7 : H7 f0 = some (.lst xs) := k7 _ _ (by simp [ngf]) (s6 _ _ hf4)
    have hev7 : H7 ev = some (.lst ((evry ns).map V.str)) := K7 _ _ (by simp [nge]) (ki _ _ (by simp [nge, nfe.symm]) hev2)
    refine ⟨r3, rfl, by omega, by omega, for_range (n := r3.toNat) (fun j σ H' => (∃ x7 x8 : Option V, σ = [some (.ref g), some (.ref n0), some (.ref ev), some (.ref f0), some (.int (i : Nat)), some (.str ns[i]), some (.ref m0), x7, x8, none, none]) ∧
      Gn g s0 t (8 + 300 * i + 16 + 60 * j) H' ∧ Keep [g, m0] H7 H' ∧ ∃ (zss : List (List Str)) (ms : List V), zss.length = j ∧ (∀ zs ∈ zss, zs.length ≤ 4 ∧ ∀ y ∈ zs, y ∈ evry ns) ∧ H' m0 = some (.lst ms) ∧ DTs (hid [g, f0, m0] H') ms (mk1 ns[i] z zss))
      ⟨⟨_, _, rfl⟩, G7.mono (by omega), Keep.refl, [], _, rfl, fun c hc => absurd hc List.not_mem_nil, hm7, dm7⟩ ?_ ?_⟩
    · rintro j σ H8 hj ⟨⟨y7, y8, rfl⟩, Gj, kj, zss, ms, lz, okz, hmj, dmj⟩
      have nem : ev ≠ m0 := by
        have := ki _ _ (by simp [nge, nfe.symm]) hev2
        exact ne_of_none this nm2
      have hev8 : H8 ev = some (.lst ((evry ns).map V.str)) := kj _ _ (by simp [nge, nem]) hev7
      have hf8 : H8 f0 = some (.lst xs) := kj _ _ (by simp [ngf, nmf.symm]) hf7
      -- parts
      refine ⟨_, rfl, draw Gj t0 (by omega) (by decide) (by decide) fun r5 H9 v0 v1 G9 k9 => ?_⟩
      have hev9 : H9 ev = some (.lst ((evry ns).map V.str)) := k9 _ _ (by simp [nge]) hev8
      refine ⟨r5, rfl, by omega, by omega, fun D hD => lc_draws (E := evry ns) hD G9 (by omega) ?_ ?_⟩
      · intro x H' k Q' hk Gk kk q'
        have hev' := kk _ _ (by simp [nge]) hev9
        have el : ((evry ns).map V.str).length = 3 + ns.length := by
          rw [List.length_map]
          show (((["num", "flag", "step"] : List Str)) ++ ns).length = _
          simp
          omega
        refine ⟨_, rfl, _, rfl, _, rfl, ev, _, rfl, .inl (SqL.of hev'), draw Gk t0 (by omega) (by rw [el]; omega) (by rw [el]; omega) fun r6 H'' z0 z1 G' k' => ?_⟩
        rw [el] at z1
        have hlt : r6.toNat < (evry ns).length := by
          rw [List.length_map] at el
          omega
        have eat : atI ((evry ns).map V.str) r6 = some (.str ((evry ns)[r6.toNat]'hlt)) := by
          have z := atI_nat (xs := (evry ns).map V.str) (j := r6.toNat) (v := .str ((evry ns)[r6.toNat]'hlt)) (by rw [List.getElem?_map, List.getElem?_eq_getElem hlt]; rfl)
          rwa [Int.toNat_of_nonneg z0] at z
        refine ⟨ev, _, _, _, rfl, rfl, SqL.of (k' _ _ (by simp [nge]) hev'), eat, ?_⟩
        exact q' _ _ (List.getElem_mem _) k' G'
      · intro H' zs lzs mzs k10 hD10 G10
        have j3 : j < 3 := by omega
        have nDg : D ≠ g := G9.some hD
        have kall : Keep [g] H8 H' := k9.trans k10
        have hm' : H' m0 = some (.lst ms) := kall _ _ (by simp [nmg]) hmj
        have hf' : H' f0 = some (.lst xs) := kall _ _ (by simp [ngf]) hf8
        have nDm : D ≠ m0 := (ne_of_none (k9 _ _ (by simp [nmg]) hmj) hD).symm
        have nDf : D ≠ f0 := (ne_of_none (k9 _ _ (by simp [ngf]) hf8) hD).symm
        have lms : ms.length = 1 + j := by
          have := dmj.length
          unfold mk1 at this
          rw [List.length_cons, rest1_len, lz] at this
          omega
        have ej : (0 + (j : Int)).toNat = j := by omega
        have hc : ("abcd" : Str).cps[(0 + (j : Int)).toNat]? = some (("abcd" : Str).cps.getD j 0) := by
          rw [ej]
          match j, j3 with
          | 0, _ => rfl
          | 1, _ => rfl
          | 2, _ => rfl
        refine ⟨_, rfl, .inl ⟨rfl, _, SqL.of hm'⟩, ?_⟩
        refine ⟨_, rfl, _, 0, _, rfl, rfl, by decide, by decide, by omega, at0, ?_⟩
        refine ⟨_, rfl, _, _, _, rfl, rfl, by omega, by omega, (show (0 + (j : Int)) < 4 by omega), hc, ?_⟩
        refine ⟨_, _, rfl, rfl, (show 1 + 1 ≤ sizeLine by decide), _, rfl, (show 2 ≤ sizeLine by decide), fun tq htq => ?_⟩
        refine ⟨m0, ms, _, rfl, rfl, same_new htq _ _ hm', small1000 (by omega), ?_⟩
        have ntqg : tq ≠ g := G10.some htq
        have ntqm : tq ≠ m0 := (ne_of_none hm' htq).symm
        have ntqf : tq ≠ f0 := (ne_of_none hf' htq).symm
        have kfin : Keep [g, m0] H8 (upd (upd H' tq (.tup [.str (hd1 ns[i] ++ abc j), .ref D])) m0 (.lst (ms ++ [.ref tq]))) := ((kall.mono (fun b hb => by simp at hb; simp [hb])).trans (keep_new htq)).trans (keep_upd (by simp))
        refine ⟨⟨_, _, rfl⟩, ((G10.new htq).off nmg.symm).mono (by omega), kj.trans kfin, zss ++ [zs], ms ++ [.ref tq], ?_, ?_, upd_same, ?_⟩
        · rw [List.length_append, lz]
          rfl
        · intro y hy
          rcases List.mem_append.mp hy with hy | hy
          · exact okz y hy
          · rw [List.mem_singleton.mp hy]
            exact ⟨by omega, mzs⟩
        · rw [mk1_app, lz]
          refine DTs.snoc (dmj.same ((kfin.mono (S' := [g, f0, m0]) (fun b hb => by simp at hb; rcases hb with hb | hb <;> simp [hb])).hid) _) ?_
          refine .tup (hid_at (by simp [ntqg, ntqf, ntqm]) ((upd_ne ntqm).trans upd_same)) (.cons (.str _) (.cons (.lst (hid_at (by simp [nDg, nDf, nDm]) ((upd_ne nDm).trans (same_new htq _ _ hD10))) (strs_dt zs)) .nil))
    · rintro σ H8 ⟨⟨y7, y8, rfl⟩, Gj, kj, zss, ms, lz, okz, hmj, dmj⟩
      have hf8 : H8 f0 = some (.lst xs) := kj _ _ (by simp [ngf, nmf.symm]) hf7
      have lxs : xs.length ≤ 3 := by
        have h1 := dts.length
        have h2 := congrArg List.length eL
        rw [List.length_map] at h1 h2
        rw [List.length_take] at h2
        omega
      have k28 : Keep [g] H2 H8 := (((K7.mono (S' := [g, m0]) (fun b hb => by simp at hb; simp [hb])).trans kj).less (fun b hb hb2 => by
        simp at hb hb2
        rcases hb with hb | hb
        · exact absurd hb hb2
        · rw [hb]
          exact nm2))
      refine ⟨_, rfl, .inl ⟨rfl, _, SqL.of hf8⟩, ?_⟩
      refine ⟨_, rfl, _, rfl, (show 3 ≤ sizeLine by decide), fun tq htq => ?_⟩
      refine ⟨f0, xs, _, rfl, rfl, same_new htq _ _ hf8, small1000 (by omega), ?_⟩
      have ntqg : tq ≠ g := Gj.some htq
      have ntqf : tq ≠ f0 := (ne_of_none hf8 htq).symm
      have kfin : Keep [g, f0] H2 (upd (upd H8 tq (.tup [.str "choice", .str ns[i], .ref m0])) f0 (.lst (xs ++ [.ref tq]))) := ((k28.mono (fun b hb => by simp at hb; simp [hb])).trans (keep_new htq)).trans (keep_upd (by simp))
      refine ⟨⟨_, _, _, _, _, rfl⟩, ((Gj.new htq).off ngf.symm).mono (by omega), ki.trans kfin, L ++ [(ns[i], z, zss)], xs ++ [.ref tq], ?_, ?_, upd_same, ?_⟩
      · rw [List.map_append, eL, List.take_add_one, List.getElem?_eq_getElem hi]
        rfl
      · intro c hc
        rcases List.mem_append.mp hc with hc | hc
        · exact okL c hc
        · rw [List.mem_singleton.mp hc]
          exact ⟨zok, by show zss.length ≤ 3; omega, okz⟩
      · rw [List.map_append]
        refine DTs.snoc (dts.same kfin.hid _) ?_
        refine .tup (hid_at (by simp [ntqg, ntqf]) ((upd_ne ntqf).trans upd_same)) (.cons (.str _) (.cons (.str _) (.cons (.lst (hid_at (by simp [nmg, nmf]) ((upd_ne nmf).trans (same_new htq _ _ hmj))) ?_) .nil)))
        refine dmj.same (Same.trans (hid_mono (S := [g, f0]) (S' := [g, f0, m0]) (fun b hb => by simp at hb; rcases hb with hb | hb <;> simp [hb])) ?_) _
        exact Keep.hid ((keep_new htq).trans (keep_upd (by simp)))
  · rintro σ H2 ⟨⟨x4, x5, x6, x7, x8, rfl⟩, Gi, ki, L, xs, eL, okL, hf, dts⟩
    rw [List.length_map] at Gi eL
    rw [List.take_length] at eL
    have lxs : xs.length ≤ 3 := by
      have h1 := dts.length
      have h2 := congrArg List.length eL
      rw [List.length_map] at h1 h2
      omega
    have hev2' : H2 ev = some (.lst ((evry ns).map V.str)) := ki _ _ (by simp [nge, nfe.symm]) hev2
    refine ⟨_, rfl, draw Gi t0 (by omega) (by decide) (by decide) fun r5 H9 v0 v1 G9 k9 => ?_⟩
    have hev9 : H9 ev = some (.lst ((evry ns).map V.str)) := k9 _ _ (by simp [nge]) hev2'
    refine ⟨r5, rfl, by omega, by omega, fun D hD => lc_draws (E := evry ns) hD G9 (by omega) ?_ ?_⟩
    · intro x H' k Q' hk Gk kk q'
      have hev' := kk _ _ (by simp [nge]) hev9
      have el : ((evry ns).map V.str).length = 3 + ns.length := by
        rw [List.length_map]
        show (((["num", "flag", "step"] : List Str)) ++ ns).length = _
        simp
        omega
      refine ⟨_, rfl, _, rfl, _, rfl, ev, _, rfl, .inl (SqL.of hev'), draw Gk t0 (by omega) (by rw [el]; omega) (by rw [el]; omega) fun r6 H'' z0 z1 G' k' => ?_⟩
      rw [el] at z1
      have hlt : r6.toNat < (evry ns).length := by
        rw [List.length_map] at el
        omega
      have eat : atI ((evry ns).map V.str) r6 = some (.str ((evry ns)[r6.toNat]'hlt)) := by
        have z := atI_nat (xs := (evry ns).map V.str) (j := r6.toNat) (v := .str ((evry ns)[r6.toNat]'hlt)) (by rw [List.getElem?_map, List.getElem?_eq_getElem hlt]; rfl)
        rwa [Int.toNat_of_nonneg z0] at z
      refine ⟨ev, _, _, _, rfl, rfl, SqL.of (k' _ _ (by simp [nge]) hev'), eat, ?_⟩
      exact q' _ _ (List.getElem_mem _) k' G'
    · intro H' zs lzs mzs k10 hD10 G10
      have kall : Keep [g] H2 H' := k9.trans k10
      have hf' : H' f0 = some (.lst xs) := kall _ _ (by simp [ngf]) hf
      refine ⟨_, rfl, _, rfl, (show 4 ≤ sizeLine by decide), fun tq htq => ?_⟩
      refine ⟨(show 1 ≤ sizeLine by decide), fun lq hlq => ?_⟩
      refine ⟨f0, lq, xs, _, rfl, rfl, same_new hlq _ _ (same_new htq _ _ hf'), upd_same, (show xs.length + 1 ≤ sizeLine from Nat.le_of_lt (small1000 (by omega))), fun p hp => ?_⟩
      have nDg : D ≠ g := G9.some hD
      have ntqg : tq ≠ g := G10.some htq
      have npg : p ≠ g := ((G10.new htq).new hlq).some hp
      have kfin : Keep [g, f0] H2 (upd (upd (upd H' tq (.tup [.str "calls", .str "step", .ref D, .str "num"])) lq (.lst [.ref tq])) p (.lst (xs ++ [.ref tq]))) := (((kall.mono (fun b hb => by simp at hb; simp [hb])).trans (keep_new htq)).trans (keep_new hlq)).trans (keep_new hp)
      have kH0 : Keep [g] H (upd (upd H' tq (.tup [.str "calls", .str "step", .ref D, .str "num"])) lq (.lst [.ref tq])) := by
        refine ((K5.mono (S' := [g, f0]) (fun b hb => by simp at hb; simp [hb])).trans (ki.trans (((kall.mono (fun b hb => by simp at hb; simp [hb])).trans (keep_new htq)).trans (keep_new hlq)))).less (fun b hb hb2 => ?_)
        simp at hb hb2
        rcases hb with hb | hb
        · exact absurd hb hb2
        · rw [hb]
          exact hfH
      refine q p _ L zs _ ⟨by rw [eL]; exact nok, by rw [eL]; exact okL, by omega, by rw [eL]; exact mzs⟩ npg (kH0.free hp (by simp [npg])) upd_same ?_ (kH0.trans (keep_new hp)) ?_
      · refine DTs.snoc ((dts.same kfin.hid _).same (hid_mono (S := [g]) (S' := [g, f0]) (fun b hb => by simp at hb; simp [hb])) _) ?_
        refine .tup (hid_at (by simp [ntqg]) (same_new hp _ _ (same_new hlq _ _ upd_same))) (.cons (.str _) (.cons (.str _) (.cons (.lst (hid_at (by simp [nDg]) (same_new hp _ _ (same_new hlq _ _ (same_new htq _ _ hD10)))) (strs_dt zs)) (.cons (.str _) .nil))))
      · exact (((G10.new htq).new hlq).new hp).mono (by omega)
end
end Cb
set_option Elab.async false
set_option linter.all false
set_option maxRecDepth 100000
set_option maxHeartbeats 8000000
namespace Cb
open PySem PySem.Spec PyProof.Rows L2
/-! ### a text so and so often -/
def manyS (z : Str) (n : Nat) : Str := ⟨(List.replicate n z.cps).foldl (· ++ ·) #[]⟩
theorem op_mul_strA {X : Cx} : OpR X (binaryOp .Mult) (fun x y H Q => ∃ (z : Str) (n : Int), x = .str z ∧ y = .int n ∧ 2 ≤ n ∧ n ≤ 100 ∧ z.length = 1 ∧ (manyS z n.toNat).length ≤ sizeLine ∧ Q (.str (manyS z n.toNat)) H) := by
  intro pins s σ H x y v u Q I rx ry h
  obtain ⟨z, n, rfl, rfl, n0, n1, lz, sm, q⟩ := h
  obtain ⟨t, rfl⟩ := rx
  obtain ⟨t', rfl⟩ := ry
  refine PySem.P.mul_str ?_ ?_ ?_ ?_
  · have h1 : ¬ n < -(2 ^ 63 : Int) := by omega
    have h2 : ¬ n ≥ 2 ^ 63 := by omega
    rw [decide_eq_false h1, decide_eq_false h2]
    rfl
  · intro _ _
    rw [lz]
    have : (1 : Int) ≤ (2 ^ 63 - 1) / n := Int.le_ediv_of_mul_le (by omega) (by omega)
    omega
  · intro _ _
    rw [lz]
    unfold Builtin.Str.tooLong
    have : n.toNat ≤ 100 := by omega
    exact decide_eq_false (Nat.not_lt.mpr (Nat.le_trans (show 1 * n.toNat ≤ 100 by omega) (show 100 ≤ sizeLine by decide)))
  · have h1 : ¬ n < 1 := by omega
    have h2 : (n == 1 || z.length == 0) = false := by
      rw [lz]
      have : (n == 1) = false := by
        rw [beq_eq_false_iff_ne]
        omega
      rw [this]
      rfl
    rw [if_neg h1, h2]
    exact ⟨sm, ⟨.str (manyS z n.toNat), H, I.tok _, ⟨_, rfl⟩, q⟩⟩
theorem same_keep {S : List Addr} {H H' : Hp} (s : Same H H') : Keep S H H' := fun b o _ e => s b o e
/-! ### cuts -/
theorem cut_to {xs : List V} {i : Nat} (h : i ≤ xs.length) : cutV xs none (some (i : Int)) = xs.take i := by
  unfold cutV
  rw [show HT.sIx xs.length 0 none = 0 from HT.sIx_none _ _, HT.sIx_nat _ _ i, Nat.min_eq_left h]
  simp
theorem cut_from {xs : List V} {i : Nat} (h : i ≤ xs.length) : cutV xs (some (i : Int)) none = xs.drop i := by
  unfold cutV
  rw [HT.sIx_nat _ _ i, show HT.sIx xs.length xs.length none = xs.length from HT.sIx_none _ _, Nat.min_eq_left h]
  rw [List.take_of_length_le (by simp)]
theorem DTs.take {H : Hp} : ∀ {ds : List PyData} {xs : List V} (i : Nat), DTs H xs ds → DTs H (xs.take i) (ds.take i)
  | _, _, 0, _ => by rw [List.take_zero, List.take_zero]; exact .nil
  | [], _, _ + 1, h => by cases h; exact .nil
  | d :: ds, _, i + 1, h => by
    cases h with
    | cons a r => exact .cons a (DTs.take (ds := ds) i r)
theorem DTs.drop {H : Hp} : ∀ {ds : List PyData} {xs : List V} (i : Nat), DTs H xs ds → DTs H (xs.drop i) (ds.drop i)
  | _, _, 0, h => h
  | [], _, _ + 1, h => by cases h; exact .nil
  | d :: ds, _, i + 1, h => by
    cases h with
    | cons a r => exact DTs.drop (ds := ds) i r
/-- kinds[:at] + [X] + kinds[at + 1:] -/
abbrev tPut (K : PySem.W.Frag) (tX : TE) : TE := tOp rCat (tOp rCat (tSl (rSlL K) (tVar 1) tNoPart (tPart (tVar 2))) (tLst (tCons tX tNil))) (tSl (rSlL K) (tVar 1) (tPart (tOp (rI0 fun i j => .int (i + j)) (tVar 2) (tC (.int 1)))) tNoPart)
theorem put_ok {K : PySem.W.Frag} {σ : L2.St} {H : Hp} {Q : VK} {tX : TE} {kp fp : Addr} {fo : HO} {i : Nat} {xs : List V} {kd : List PyData} {d : PyData} (h1 : σ[1]? = some (some (.ref kp))) (h2 : σ[2]? = some (some (.int i))) (hk : H kp = some (.lst xs)) (hf : H fp = some fo)
    (dk : DTs (hid [fp] H) xs kd) (hi : i < xs.length) (sm : xs.length < 900)
    (hx : ∀ (H1 : Hp) (R : VK), Same H H1 → (∀ (v : V) (H2 : Hp), Same H1 H2 → DT (hid [fp] H2) v d → R v H2) → tX σ H1 R)
    (q : ∀ (p : Addr) (H' : Hp), Same H H' → DT (hid [fp] H') (.ref p) (.list (kd.take i ++ [d] ++ kd.drop (i + 1))) → Q (.ref p) H') : tPut K tX σ H Q := by
  have nf : ∀ {H' : Hp} {p : Addr}, Same H H' → H' p = none → p ∉ [fp] := fun s e => by
    have := ne_of_none (s _ _ hf) e
    simp [Ne.symm this]
  refine ⟨_, h1, _, h2, _, rfl, kp, _, rfl, SqL.of hk, fun a1 n1 => ?_⟩
  rw [cut_to (Nat.le_of_lt hi)]
  have s1 : Same H (upd H a1 (.lst (xs.take i))) := same_new n1
  refine hx _ _ s1 fun v H2 s2 dv => ?_
  have s12 := s1.trans s2
  refine ⟨(show 1 ≤ sizeLine by decide), fun a2 n2 => ?_⟩
  have s3 := s12.trans (same_new (o := .lst [v]) n2)
  refine ⟨a1, a2, _, _, rfl, rfl, same_new n2 _ _ (s2 _ _ upd_same), upd_same, (show (xs.take i).length + 1 ≤ sizeLine from Nat.le_of_lt (small1000 (by rw [List.length_take]; omega))), fun a3 n3 => ?_⟩
  have s4 := s3.trans (same_new (o := .lst (xs.take i ++ [v])) n3)
  refine ⟨_, h1, _, h2, _, _, rfl, rfl, _, rfl, kp, _, rfl, SqL.of (s4 _ _ hk), fun a4 n4 => ?_⟩
  rw [show ((i : Int) + 1) = ((i + 1 : Nat) : Int) by omega, cut_from (by omega)]
  have s5 := s4.trans (same_new (o := .lst (xs.drop (i + 1))) n4)
  refine ⟨a3, a4, _, _, rfl, rfl, same_new n4 _ _ upd_same, upd_same, (show (xs.take i ++ [v]).length + (xs.drop (i + 1)).length ≤ sizeLine from Nat.le_of_lt (small1000 (by simp only [List.length_append, List.length_take, List.length_drop, List.length_cons, List.length_nil]; omega))), fun a5 n5 => ?_⟩
  have s6 := s5.trans (same_new (o := .lst (xs.take i ++ [v] ++ xs.drop (i + 1))) n5)
  refine q a5 _ s6 (.lst (hid_at (nf s5 n5) upd_same) ?_)
  have dk6 := dk.same (Keep.hid (same_keep s6)) _
  have dv6 := dv.same (Keep.hid (same_keep (((same_new n2).trans (same_new n3)).trans ((same_new n4).trans (same_new (o := .lst (xs.take i ++ [v] ++ xs.drop (i + 1))) n5))))) _
  exact (DTs.snoc (dk6.take i) dv6).app (dk6.drop (i + 1))
/-- found.append(..): what is found stays right -/
structure Fnd (fp : Addr) (B : PyData → Prop) (n : Nat) (H : Hp) : Prop where
  ex : ∃ (fs : List V) (bs : List PyData), H fp = some (.lst fs) ∧ DTs (hid [fp] H) fs bs ∧ (∀ b ∈ bs, B b) ∧ fs.length ≤ n
theorem Fnd.at_ {fp : Addr} {B : PyData → Prop} {n : Nat} {H : Hp} (F : Fnd fp B n H) : ∃ fs : List V, H fp = some (.lst fs) ∧ fs.length ≤ n := by
  obtain ⟨fs, bs, h, _, _, l⟩ := F.ex
  exact ⟨fs, h, l⟩
theorem Fnd.same {fp : Addr} {B : PyData → Prop} {n : Nat} {H H' : Hp} (F : Fnd fp B n H) (s : Same H H') : Fnd fp B n H' := by
  obtain ⟨fs, bs, h, d, b, l⟩ := F.ex
  exact ⟨fs, bs, s _ _ h, d.same (Keep.hid (same_keep s)) _, b, l⟩
theorem Fnd.add {fp p : Addr} {B : PyData → Prop} {n : Nat} {H H' : Hp} {d : PyData} {fs : List V} (F : Fnd fp B n H) (s : Same H H') (hf : H' fp = some (.lst fs)) (dp : DT (hid [fp] H') (.ref p) d) (b : B d) : Fnd fp B (n + 1) (upd H' fp (.lst (fs ++ [.ref p]))) := by
  obtain ⟨fs2, bs, h, dd, bb, l⟩ := (F.same s).ex
  rw [hf] at h
  obtain rfl : fs = fs2 := by
    have := Option.some.inj h
    exact HO.lst.inj this
  have k : Keep [fp] H' (upd H' fp (.lst (fs ++ [.ref p]))) := keep_upd (by simp)
  refine ⟨fs ++ [.ref p], bs ++ [d], upd_same, DTs.snoc (dd.same k.hid _) (dp.same k.hid _), ?_, ?_⟩
  · intro x hx
    rcases List.mem_append.mp hx with hx | hx
    · exact bb x hx
    · rw [List.mem_singleton.mp hx]
      exact b
  · rw [List.length_append]
    show fs.length + 1 ≤ n + 1
    omega
end Cb
set_option Elab.async false
set_option linter.all false
set_option maxRecDepth 100000
set_option maxHeartbeats 4000000
namespace Cb
open PySem PySem.Spec PyProof.Rows L2
/-! ### what a right list of declarations is -/
theorem kHas_add (kn : Kv) (z y : Str) : kHas (addK kn z) y = (decide (y = z) || kHas kn y) := by
  unfold kHas addK
  rw [valV_put]
  by_cases h : y = z
  · subst h
    simp
  · rw [if_neg (fun e => h (Sum.inr.inj e)), decide_eq_false h, Bool.false_or]
theorem addMakers_ok : ∀ (zs : List Str) (km : Kv), (addMakers zs km).1 = false ↔ zs.Nodup ∧ ∀ z ∈ zs, kHas km z = false
  | [], km => by simp [addMakers]
  | z :: r, km => by
    unfold addMakers
    cases h : kHas km z with
    | true => simp [h]
    | false =>
      rw [if_neg (by decide), addMakers_ok r (addK km z), List.nodup_cons]
      simp only [kHas_add, Bool.or_eq_false_iff, decide_eq_false_iff_not]
      constructor
      · rintro ⟨n, a⟩
        refine ⟨⟨fun m => (a z m).1 rfl, n⟩, fun y hy => ?_⟩
        rcases List.mem_cons.mp hy with rfl | hy
        · exact h
        · exact (a y hy).2
      · rintro ⟨⟨m, n⟩, a⟩
        exact ⟨n, fun y hy => ⟨fun e => m (e ▸ hy), a y (List.mem_cons_of_mem _ hy)⟩⟩
theorem addMakers_has : ∀ (zs : List Str) (km : Kv), (addMakers zs km).1 = false → ∀ y, kHas (addMakers zs km).2 y = (decide (y ∈ zs) || kHas km y)
  | [], km, _, y => by simp [addMakers]
  | z :: r, km, h, y => by
    unfold addMakers at h ⊢
    cases e : kHas km z with
    | true => simp [e] at h
    | false =>
      rw [e] at h
      rw [if_neg (by decide)] at h ⊢
      rw [addMakers_has r (addK km z) h y, kHas_add]
      by_cases h1 : y = z <;> by_cases h2 : y ∈ r <;> simp [h1, h2]
theorem wrongIn_none {d : PyData} {kn km : Kv} : (wrongIn d kn km).1 = none ↔ declForm d = true ∧ (declName d :: makerNames d).all isWordS = true ∧ kHas kn (declName d) = false ∧ (addMakers (makerNames d) km).1 = false := by
  unfold wrongIn
  by_cases h1 : declForm d = true
  · rw [if_pos h1]
    by_cases h2 : (declName d :: makerNames d).all isWordS = true
    · rw [if_pos h2]
      by_cases h3 : kHas kn (declName d) = true
      · rw [if_pos h3]
        simp [h3]
      · rw [if_neg h3]
        by_cases h4 : (addMakers (makerNames d) km).1 = true
        · rw [if_pos h4]
          simp [h4]
        · rw [if_neg h4]
          exact ⟨fun _ => ⟨h1, h2, Bool.not_eq_true _ ▸ h3, Bool.not_eq_true _ ▸ h4⟩, fun _ => rfl⟩
    · rw [if_neg h2]
      constructor
      · intro h
        cases h
      · rintro ⟨_, h, _⟩
        exact absurd h h2
  · rw [if_neg h1]
    constructor
    · intro h
      cases h
    · rintro ⟨h, _⟩
      exact absurd h h1
theorem wrongIn_snd {d : PyData} {kn km : Kv} (h : (wrongIn d kn km).1 = none) : (wrongIn d kn km).2 = (addK kn (declName d), (addMakers (makerNames d) km).2) := by
  obtain ⟨h1, h2, h3, h4⟩ := wrongIn_none.mp h
  unfold wrongIn
  rw [if_pos h1, if_pos h2, if_neg (by rw [h3]; decide), if_neg (by rw [h4]; decide)]
theorem first_cons {d : PyData} {ds : List PyData} {i : Nat} {kn km : Kv} : (firstLoop (d :: ds) i kn km).1 = none ↔ (wrongIn d kn km).1 = none ∧ (firstLoop ds (i + 1) (wrongIn d kn km).2.1 (wrongIn d kn km).2.2).1 = none := by
  conv => lhs; unfold firstLoop
  cases h : (wrongIn d kn km).1 with
  | some w => simp
  | none => simp
theorem first_iff : ∀ (ds : List PyData) (i : Nat) (kn km : Kv), (firstLoop ds i kn km).1 = none ↔ (∀ d ∈ ds, declForm d = true ∧ (declName d :: makerNames d).all isWordS = true) ∧ ((ds.map declName).Nodup ∧ ∀ z ∈ ds.map declName, kHas kn z = false) ∧ (((ds.map makerNames).flatten).Nodup ∧ ∀ z ∈ (ds.map makerNames).flatten, kHas km z = false)
  | [], i, kn, km => by simp [firstLoop]
  | d :: ds, i, kn, km => by
    rw [first_cons, List.map_cons, List.map_cons, List.flatten_cons, List.nodup_cons, List.nodup_append]
    constructor
    · rintro ⟨h, g⟩
      obtain ⟨h1, h2, h3, h4⟩ := wrongIn_none.mp h
      rw [wrongIn_snd h] at g
      obtain ⟨g1, ⟨g2, g3⟩, g4, g5⟩ := (first_iff ds _ _ _).mp g
      obtain ⟨m1, m2⟩ := (addMakers_ok _ _).mp h4
      refine ⟨?_, ⟨⟨?_, g2⟩, ?_⟩, ⟨m1, g4, ?_⟩, ?_⟩
      · intro x hx
        rcases List.mem_cons.mp hx with rfl | hx
        · exact ⟨h1, h2⟩
        · exact g1 x hx
      · intro m
        have := g3 _ m
        rw [kHas_add] at this
        simp at this
      · intro z hz
        rcases List.mem_cons.mp hz with rfl | hz
        · exact h3
        · have := g3 z hz
          rw [kHas_add] at this
          exact (Bool.or_eq_false_iff.mp this).2
      · intro a ha b hb e
        subst e
        have := g5 _ hb
        rw [addMakers_has _ _ h4] at this
        simp [ha] at this
      · intro z hz
        rcases List.mem_append.mp hz with hz | hz
        · exact m2 z hz
        · have := g5 z hz
          rw [addMakers_has _ _ h4] at this
          exact (Bool.or_eq_false_iff.mp this).2
    · rintro ⟨f, ⟨⟨n1, n2⟩, n3⟩, ⟨m1, m2, m3⟩, m4⟩
      have hw : (wrongIn d kn km).1 = none := wrongIn_none.mpr ⟨(f d (List.mem_cons_self ..)).1, (f d (List.mem_cons_self ..)).2, n3 _ (List.mem_cons_self ..), (addMakers_ok _ _).mpr ⟨m1, fun z hz => m4 z (List.mem_append.mpr (.inl hz))⟩⟩
      refine ⟨hw, ?_⟩
      rw [wrongIn_snd hw]
      refine (first_iff ds _ _ _).mpr ⟨fun x hx => f x (List.mem_cons_of_mem _ hx), ⟨n2, fun z hz => ?_⟩, m2, fun z hz => ?_⟩
      · rw [kHas_add, n3 z (List.mem_cons_of_mem _ hz), Bool.or_false]
        exact decide_eq_false fun e => n1 (e ▸ hz)
      · rw [addMakers_has _ _ (wrongIn_none.mp hw).2.2.2, m4 z (List.mem_append.mpr (.inr hz)), Bool.or_false]
        exact decide_eq_false fun e => m3 z e z hz rfl
theorem first_has : ∀ (ds : List PyData) (i : Nat) (kn km : Kv), (firstLoop ds i kn km).1 = none → ∀ y, kHas (firstLoop ds i kn km).2 y = (decide (y ∈ ds.map declName) || kHas kn y)
  | [], i, kn, km, _, y => by simp [firstLoop]
  | d :: ds, i, kn, km, h, y => by
    obtain ⟨h1, h2⟩ := first_cons.mp h
    have ih := first_has ds _ _ _ h2 y
    have e : (firstLoop (d :: ds) i kn km).2 = (firstLoop ds (i + 1) (wrongIn d kn km).2.1 (wrongIn d kn km).2.2).2 := by
      conv => lhs; unfold firstLoop
      rw [h1]
    rw [e, ih, wrongIn_snd h1, kHas_add, List.map_cons]
    by_cases a : y = declName d <;> by_cases b : y ∈ ds.map declName <;> simp [a, b]
theorem second_iff (kn : Kv) : ∀ (ds : List PyData) (i : Nat), secondLoop kn ds i = none ↔ ∀ d ∈ ds, (kindsIn d).all (kHas kn) = true
  | [], i => by simp [secondLoop]
  | d :: ds, i => by
    unfold secondLoop
    by_cases h : (kindsIn d).all (kHas kn) = true
    · rw [if_pos h, second_iff kn ds (i + 1)]
      constructor
      · intro a x hx
        rcases List.mem_cons.mp hx with rfl | hx
        · exact h
        · exact a x hx
      · exact fun a x hx => a x (List.mem_cons_of_mem _ hx)
    · rw [if_neg h]
      constructor
      · intro e
        cases e
      · exact fun a => absurd (a d (List.mem_cons_self ..)) h
theorem kn0_has (y : Str) : kHas kn0 y = (decide (y = "num") || decide (y = "flag")) := by
  unfold kHas kn0
  by_cases h : y = ("num" : Str)
  · rw [valV_pos (p := (Sum.inr ("num" : Str), V.bl true)) (congrArg Sum.inr h.symm), decide_eq_true h]
    rfl
  · rw [valV_neg (p := (Sum.inr ("num" : Str), V.bl true)) (fun e => h (Sum.inr.inj e).symm)]
    by_cases h2 : y = ("flag" : Str)
    · rw [valV_pos (p := (Sum.inr ("flag" : Str), V.bl true)) (congrArg Sum.inr h2.symm), decide_eq_true h2, Bool.or_true]
      rfl
    · rw [valV_neg (p := (Sum.inr ("flag" : Str), V.bl true)) (fun e => h2 (Sum.inr.inj e).symm), decide_eq_false h, decide_eq_false h2]
      rfl
def nms (ds : List PyData) : List Str := "num" :: "flag" :: ds.map declName
structure Fine (ds : List PyData) : Prop where
  form : ∀ d ∈ ds, declForm d = true
  word : ∀ d ∈ ds, ∀ z ∈ declName d :: makerNames d, isWordS z = true
  names : (nms ds).Nodup
  makers : ((ds.map makerNames).flatten).Nodup
  kinds : ∀ d ∈ ds, ∀ k ∈ kindsIn d, k ∈ nms ds
  len : ds.length ≤ 12
theorem isKinds_iff {ds : List PyData} : isKinds (.list ds) = true ↔ Fine ds := by
  show (decide (ds.length ≤ 12) && (wrongDecl ds).isNone) = true ↔ _
  rw [Bool.and_eq_true, decide_eq_true_eq, Option.isNone_iff_eq_none]
  have wd : wrongDecl ds = none ↔ (firstLoop ds 0 kn0 []).1 = none ∧ secondLoop (firstLoop ds 0 kn0 []).2 ds 0 = none := by
    unfold wrongDecl
    cases h : (firstLoop ds 0 kn0 []).1 with
    | some x => simp
    | none => simp
  rw [wd]
  have nd : (nms ds).Nodup ↔ (ds.map declName).Nodup ∧ ∀ z ∈ ds.map declName, kHas kn0 z = false := by
    unfold nms
    rw [List.nodup_cons, List.nodup_cons]
    simp only [kn0_has, Bool.or_eq_false_iff, decide_eq_false_iff_not]
    constructor
    · rintro ⟨a, b, c⟩
      exact ⟨c, fun z hz => ⟨fun e => a (List.mem_cons_of_mem _ (e ▸ hz)), fun e => b (e ▸ hz)⟩⟩
    · rintro ⟨c, d⟩
      refine ⟨fun m => ?_, fun m => (d _ m).2 rfl, c⟩
      rcases List.mem_cons.mp m with e | m
      · exact absurd e (by decide)
      · exact (d _ m).1 rfl
  have kk : (firstLoop ds 0 kn0 []).1 = none → ((∀ d ∈ ds, (kindsIn d).all (kHas (firstLoop ds 0 kn0 []).2) = true) ↔ ∀ d ∈ ds, ∀ k ∈ kindsIn d, k ∈ nms ds) := by
    intro h
    have e : ∀ y, kHas (firstLoop ds 0 kn0 []).2 y = true ↔ y ∈ nms ds := by
      intro y
      rw [first_has _ _ _ _ h, kn0_has]
      unfold nms
      simp only [Bool.or_eq_true, decide_eq_true_eq, List.mem_cons]
      constructor
      · rintro (a | a | a)
        · exact .inr (.inr a)
        · exact .inl a
        · exact .inr (.inl a)
      · rintro (a | a | a)
        · exact .inr (.inl a)
        · exact .inr (.inr a)
        · exact .inl a
    simp only [List.all_eq_true, e]
  constructor
  · rintro ⟨l, h1, h2⟩
    obtain ⟨f, n, m, _⟩ := (first_iff _ _ _ _).mp h1
    exact ⟨fun d hd => (f d hd).1, fun d hd z hz => List.all_eq_true.mp (f d hd).2 z hz, nd.mpr n, m, (kk h1).mp ((second_iff _ _ _).mp h2), l⟩
  · intro F
    have h1 : (firstLoop ds 0 kn0 []).1 = none := (first_iff _ _ _ _).mpr ⟨fun d hd => ⟨F.form d hd, List.all_eq_true.mpr (F.word d hd)⟩, nd.mp F.names, F.makers, fun z _ => rfl⟩
    exact ⟨F.len, h1, (second_iff _ _ _).mpr ((kk h1).mpr F.kinds)⟩
theorem notFine {ds : List PyData} (h : ¬ Fine ds) : isKinds (.list ds) = false := Bool.eq_false_iff.mpr fun e => h (isKinds_iff.mp e)
end Cb
set_option Elab.async false
set_option linter.all false
set_option maxRecDepth 100000
set_option maxHeartbeats 4000000
namespace Cb
open PySem PySem.Spec PyProof.Rows L2
/-! ### a text of data, an empty dict too -/
@[irreducible] def rRep2 (K : PySem.W.Frag) (u : Nat) : List V → Hp → VK → Prop := fun vs H Q => rRepr K u vs H Q ∨ ∃ a : Addr, vs = [.ref a] ∧ H a = some (.dK []) ∧ u + 200 < cLine ∧ Q (.str (PyData.shown (.dict []))) H
theorem call_repr2 {X : Cx} (hg : X.A.guards = some []) : CallR X (.builtin "repr") (rRep2 X.K X.A.units) := by
  intro pins s σ H vs us Q I rel h
  unfold rRep2 at h
  rcases h with h | ⟨a, rfl, e, hu, q⟩
  · exact call_repr hg pins s σ H vs us Q I rel h
  · obtain ⟨u, rfl, ru⟩ := vals1 rel
    cases ru
    obtain ⟨_, low, vs, kv, o, es, ep, ho, ex, hd, _, pr, _⟩ := dk_of I.hok e
    obtain rfl : vs = [] := by
      cases vs with
      | nil => rfl
      | cons x r =>
        have := Paired.length kv
        simp at this
    have ees : es.toList = [] := by
      have := pr.length
      exact List.length_eq_zero_iff.mp this
    have rd : Reads s.heap (.ref a) (.dict []) (a :: [] ++ []) := .dict ho ex.1 hd (by rw [ees]; exact .nil) (by rw [ees]; exact .nil)
    refine repr_of_reads' rd (by decide +kernel) (fun _ m => ?_) hg (by show X.A.units + (_ + 1) < cLine; simp only [PyData.depth, PyData.depthKv]; omega) (fun _ _ z => z) (fun h' w tk hk => ⟨.str (PyData.shown (.dict [])), H, I.kept hk, ⟨_, rfl⟩, q⟩) (by decide +kernel)
    have : sysModules = a := by simpa using m
    rw [this] at low
    simp at low
/-! ### wrong ones -/
section
variable {A B : List PyData} {d : PyData}
theorem wrong_form (h : declForm d = false) : isKinds (.list (A ++ [d] ++ B)) = false := notFine fun F => by
  have := F.form d (by simp)
  rw [h] at this
  cases this
theorem wrong_word {z : Str} (m : z ∈ declName d :: makerNames d) (h : isWordS z = false) : isKinds (.list (A ++ [d] ++ B)) = false := notFine fun F => by
  have := F.word d (by simp) z m
  rw [h] at this
  cases this
theorem wrong_twice (h : ¬ (makerNames d).Nodup) : isKinds (.list (A ++ [d] ++ B)) = false := notFine fun F => by
  have := F.makers
  simp only [List.map_append, List.flatten_append, List.map_cons, List.map_nil, List.flatten_cons, List.flatten_nil, List.append_nil] at this
  exact h (List.nodup_append.mp (List.nodup_append.mp this).1).2.1
theorem wrong_base (h : declName d = ("num" : Str) ∨ declName d = ("flag" : Str)) : isKinds (.list (A ++ [d] ++ B)) = false := notFine fun F => by
  have n := F.names
  unfold nms at n
  rw [List.nodup_cons, List.nodup_cons] at n
  have m : declName d ∈ (A ++ [d] ++ B).map declName := List.mem_map.mpr ⟨d, by simp, rfl⟩
  rcases h with h | h
  · exact n.1 (List.mem_cons_of_mem _ (h ▸ m))
  · exact n.2.1 (h ▸ m)
theorem wrong_name {e : PyData} (m : e ∈ A ++ B) (h : declName e = declName d) : isKinds (.list (A ++ [d] ++ B)) = false := notFine fun F => by
  have n := F.names
  unfold nms at n
  rw [List.nodup_cons, List.nodup_cons] at n
  have n2 := n.2.2
  simp only [List.map_append, List.map_cons, List.map_nil] at n2
  rcases List.mem_append.mp m with m | m
  · exact (List.nodup_append.mp (List.nodup_append.mp n2).1).2.2 (declName e) (List.mem_map.mpr ⟨e, m, rfl⟩) (declName d) (by simp) h
  · exact (List.nodup_append.mp n2).2.2 (declName d) (by simp) (declName e) (List.mem_map.mpr ⟨e, m, rfl⟩) h.symm
theorem wrong_kind {S : List Str} {k : Str} (hS : ∀ x ∈ A ++ B, declName x ∈ S) (m : k ∈ kindsIn d) (h : k ∉ (declName d :: "num" :: "flag" :: S : List Str)) : isKinds (.list (A ++ [d] ++ B)) = false := notFine fun F => by
  have n := F.kinds d (by simp) k m
  unfold nms at n
  refine h ?_
  rcases List.mem_cons.mp n with n | n
  · exact List.mem_cons_of_mem _ (n ▸ List.mem_cons_self ..)
  rcases List.mem_cons.mp n with n | n
  · exact List.mem_cons_of_mem _ (List.mem_cons_of_mem _ (n ▸ List.mem_cons_self ..))
  obtain ⟨x, hx, rfl⟩ := List.mem_map.mp n
  have : x = d ∨ x ∈ A ++ B := by
    simp only [List.mem_append, List.mem_cons, List.not_mem_nil, or_false] at hx ⊢
    rcases hx with (hx | hx) | hx
    · exact .inr (.inl hx)
    · exact .inl hx
    · exact .inr (.inr hx)
  rcases this with rfl | hx
  · exact List.mem_cons_self ..
  · exact List.mem_cons_of_mem _ (List.mem_cons_of_mem _ (List.mem_cons_of_mem _ (hS x hx)))
end
theorem wrong_long {ds : List PyData} (h : 12 < ds.length) : isKinds (.list ds) = false := notFine fun F => by
  have := F.len
  omega
/-! ### what is drawn is right -/
def mkr (n : Str) (j : Nat) : Nat → List Str
  | 0 => []
  | k + 1 => (hd1 n ++ abc j) :: mkr n (j + 1) k
def mkn (n : Str) (k : Nat) : List Str := (hd1 n ++ "zero") :: mkr n 0 k
theorem rest1_names (n : Str) : ∀ (zss : List (List Str)) (j : Nat), (rest1 n j zss).map nameOf = mkr n j zss.length
  | [], j => rfl
  | z :: zss, j => by
    show _ :: (rest1 n (j + 1) zss).map nameOf = _ :: mkr n (j + 1) zss.length
    rw [rest1_names n zss (j + 1)]
    rfl
theorem mkr_sub (n : Str) : ∀ (k m j : Nat), k ≤ m → (mkr n j k).Sublist (mkr n j m)
  | 0, m, j, _ => List.nil_sublist _
  | k + 1, 0, j, h => by omega
  | k + 1, m + 1, j, h => List.Sublist.cons_cons _ (mkr_sub n k m (j + 1) (by omega))
theorem ch_makers (c : Ch) : makerNames (ch c) = mkn c.1 c.2.2.length := by
  show (mk1 c.1 c.2.1 c.2.2).map nameOf = _
  unfold mk1 mkn
  rw [List.map_cons, rest1_names]
  rfl
theorem strs_back (zs : List Str) : (zs.map PyData.str).map strOf = zs := by
  rw [List.map_map]
  exact List.map_id _
theorem rest1_parts (n : Str) : ∀ (zss : List (List Str)) (j : Nat), ((rest1 n j zss).map partsOf).flatten = zss.flatten
  | [], j => rfl
  | z :: zss, j => by
    show (z.map PyData.str).map strOf ++ ((rest1 n (j + 1) zss).map partsOf).flatten = z ++ zss.flatten
    rw [rest1_parts n zss (j + 1), strs_back]
theorem ch_kinds (c : Ch) : kindsIn (ch c) = c.2.1 ++ c.2.2.flatten := by
  show ((mk1 c.1 c.2.1 c.2.2).map partsOf).flatten = _
  unfold mk1
  rw [List.map_cons, List.flatten_cons, rest1_parts]
  show (c.2.1.map PyData.str).map strOf ++ _ = _
  rw [strs_back]
theorem step_kinds (w : List Str) : kindsIn (stepD w) = w ++ (["num"] : List Str) := by
  show (w.map PyData.str).map strOf ++ [strOf (.str "num")] = _
  rw [strs_back]
  rfl
theorem strs_isS (zs : List Str) : (zs.map PyData.str).all isS = true := by
  rw [List.all_map]
  exact List.all_eq_true.mpr fun _ _ => rfl
theorem rest1_maker (n : Str) : ∀ (zss : List (List Str)) (j : Nat), (∀ zs ∈ zss, zs.length ≤ 4) → (rest1 n j zss).all isMaker = true
  | [], j, _ => rfl
  | z :: zss, j, h => by
    show (isS (PyData.str (hd1 n ++ abc j)) && (decide ((z.map PyData.str).length ≤ 4) && (z.map PyData.str).all isS) && (rest1 n (j + 1) zss).all isMaker) = true
    rw [rest1_maker n zss (j + 1) fun zs hz => h zs (List.mem_cons_of_mem _ hz), strs_isS, List.length_map, decide_eq_true (h z (List.mem_cons_self ..))]
    rfl
theorem ch_form {E : List Str} {c : Ch} (ok : ChOk E c) : declForm (ch c) = true := by
  obtain ⟨hz, l3, h⟩ := ok
  show (isStr "choice" (.str "choice") && (isS (.str c.1) && (decide (1 ≤ (mk1 c.1 c.2.1 c.2.2).length) && decide ((mk1 c.1 c.2.1 c.2.2).length ≤ 8) && (mk1 c.1 c.2.1 c.2.2).all isMaker))) = true
  have lz : c.2.1.length ≤ 4 := by
    rcases hz with hz | hz <;> rw [hz] <;> decide
  have e1 : (mk1 c.1 c.2.1 c.2.2).all isMaker = true := by
    unfold mk1
    show (isS (PyData.str (hd1 c.1 ++ "zero")) && (decide ((c.2.1.map PyData.str).length ≤ 4) && (c.2.1.map PyData.str).all isS) && (rest1 c.1 0 c.2.2).all isMaker) = true
    rw [rest1_maker c.1 c.2.2 0 fun zs hz => (h zs hz).1, strs_isS, List.length_map, decide_eq_true lz]
    rfl
  have e2 : (mk1 c.1 c.2.1 c.2.2).length = c.2.2.length + 1 := by
    unfold mk1
    rw [List.length_cons, rest1_len]
  rw [e1, e2, decide_eq_true (show 1 ≤ c.2.2.length + 1 by omega), decide_eq_true (show c.2.2.length + 1 ≤ 8 by omega), show isStr "choice" (.str "choice") = true by decide +kernel]
  rfl
theorem step_form {w : List Str} (h : w.length ≤ 2) : declForm (stepD w) = true := by
  show (isStr "calls" (.str "calls") && (isS (.str "step") && ((decide ((w.map PyData.str).length ≤ 4) && (w.map PyData.str).all isS) && isS (.str "num")))) = true
  rw [strs_isS, List.length_map, decide_eq_true (show w.length ≤ 4 by omega)]
  decide +kernel
/-- the names in use -/
def six : List Str := ["num", "flag", "step", "list", "tree", "pair"]
def three : List Str := ["list", "tree", "pair"]
theorem three_words : ∀ n ∈ three, ∀ z ∈ n :: mkn n 3, isWordS z = true := by
  have : (three.all fun n => (n :: mkn n 3).all isWordS) = true := by decide +kernel
  intro n hn z hz
  exact List.all_eq_true.mp (List.all_eq_true.mp this n hn) z hz
def Ns2 (ns : List Str) : Prop := NamesOk ns ∨ NamesOk ns.reverse
theorem ns2_three {ns : List Str} (h : Ns2 ns) : ∀ n ∈ ns, n ∈ three := by
  rcases h with (h | h | h) | h
  · subst h; decide +kernel
  · subst h; decide +kernel
  · subst h; decide +kernel
  · intro n hn
    have hn2 := List.mem_reverse.mpr hn
    rcases h with h | h | h <;> rw [h] at hn2
    · exact (show ∀ n ∈ (["list"] : List Str), n ∈ three by decide +kernel) n hn2
    · exact (show ∀ n ∈ (["list", "tree"] : List Str), n ∈ three by decide +kernel) n hn2
    · exact (show ∀ n ∈ (["list", "tree", "pair"] : List Str), n ∈ three by decide +kernel) n hn2
theorem ns2_cases {ns : List Str} (h : Ns2 ns) : ns = (["list"] : List Str) ∨ ns = (["list", "tree"] : List Str) ∨ ns = (["list", "tree", "pair"] : List Str) ∨ ns = (["tree", "list"] : List Str) ∨ ns = (["pair", "tree", "list"] : List Str) := by
  rcases h with (h | h | h) | h | h | h
  · exact .inl h
  · exact .inr (.inl h)
  · exact .inr (.inr (.inl h))
  · have := congrArg List.reverse h
    rw [List.reverse_reverse] at this
    exact .inl this
  · have := congrArg List.reverse h
    rw [List.reverse_reverse] at this
    exact .inr (.inr (.inr (.inl this)))
  · have := congrArg List.reverse h
    rw [List.reverse_reverse] at this
    exact .inr (.inr (.inr (.inr this)))
theorem ns2_names {ns : List Str} (h : Ns2 ns) : ("num" :: "flag" :: "step" :: ns : List Str).Nodup := by
  rcases ns2_cases h with h | h | h | h | h <;> subst h <;> decide +kernel
theorem ns2_makers {ns : List Str} (h : Ns2 ns) : ((ns.map fun n => mkn n 3).flatten).Nodup := by
  rcases ns2_cases h with h | h | h | h | h <;> subst h <;> decide +kernel
theorem makers_sub : ∀ (M : List Ch), (∀ c ∈ M, c.2.2.length ≤ 3) → (((M.map ch).map makerNames).flatten).Sublist (((M.map (·.1)).map fun n => mkn n 3).flatten)
  | [], _ => List.Sublist.refl _
  | c :: M, h => by
    simp only [List.map_cons, List.flatten_cons]
    rw [ch_makers]
    exact List.Sublist.append (List.Sublist.cons_cons _ (mkr_sub c.1 _ 3 0 (h c (List.mem_cons_self ..)))) (makers_sub M fun x hx => h x (List.mem_cons_of_mem _ hx))
theorem ch_name (c : Ch) : declName (ch c) = c.1 := rfl
theorem names_map (M : List Ch) : (M.map ch).map declName = M.map (·.1) := by
  rw [List.map_map]
  rfl
/-- in whatever order -/
theorem fine_of {M : List Ch} {w : List Str} {ds : List PyData} (ns : Ns2 (M.map (·.1))) (ok : ∀ c ∈ M, ChOk (evry (M.map (·.1))) c) (wl : w.length ≤ 2) (wm : ∀ z ∈ w, z ∈ evry (M.map (·.1)))
    (hd : ds = M.map ch ++ [stepD w] ∨ ds = stepD w :: M.map ch) : Fine ds := by
  have ml : M.length ≤ 3 := by
    have e : M.length = (M.map (·.1)).length := (List.length_map ..).symm
    rw [e]
    rcases ns2_cases ns with h | h | h | h | h <;> rw [h] <;> decide
  have mem : ∀ d ∈ ds, (∃ c ∈ M, d = ch c) ∨ d = stepD w := by
    intro d hd'
    rcases hd with rfl | rfl
    · rcases List.mem_append.mp hd' with h | h
      · obtain ⟨c, hc, rfl⟩ := List.mem_map.mp h
        exact .inl ⟨c, hc, rfl⟩
      · exact .inr (List.mem_singleton.mp h)
    · rcases List.mem_cons.mp hd' with h | h
      · exact .inr h
      · obtain ⟨c, hc, rfl⟩ := List.mem_map.mp h
        exact .inl ⟨c, hc, rfl⟩
  have nin : ∀ k ∈ evry (M.map (·.1)), k ∈ nms ds := by
    intro k hk
    unfold nms
    have hk2 : k = "num" ∨ k = "flag" ∨ k = "step" ∨ k ∈ M.map (·.1) := by
      rcases List.mem_append.mp hk with h | h
      · simp only [List.mem_cons, List.not_mem_nil, or_false] at h
        rcases h with h | h | h
        · exact .inl h
        · exact .inr (.inl h)
        · exact .inr (.inr (.inl h))
      · exact .inr (.inr (.inr h))
    have stepIn : ("step" : Str) ∈ ds.map declName := List.mem_map.mpr ⟨stepD w, by rcases hd with rfl | rfl <;> simp, rfl⟩
    rcases hk2 with rfl | rfl | rfl | h
    · exact List.mem_cons_self ..
    · exact List.mem_cons_of_mem _ (List.mem_cons_self ..)
    · exact List.mem_cons_of_mem _ (List.mem_cons_of_mem _ stepIn)
    · refine List.mem_cons_of_mem _ (List.mem_cons_of_mem _ ?_)
      obtain ⟨c, hc, rfl⟩ := List.mem_map.mp h
      have hcm : ch c ∈ M.map ch := List.mem_map.mpr ⟨c, hc, rfl⟩
      refine List.mem_map.mpr ⟨ch c, ?_, rfl⟩
      rcases hd with rfl | rfl
      · exact List.mem_append.mpr (.inl hcm)
      · exact List.mem_cons_of_mem _ hcm
  refine ⟨?_, ?_, ?_, ?_, ?_, ?_⟩
  · intro d hd'
    rcases mem d hd' with ⟨c, hc, rfl⟩ | rfl
    · exact ch_form (ok c hc)
    · exact step_form wl
  · intro d hd' z hz
    rcases mem d hd' with ⟨c, hc, rfl⟩ | rfl
    · have c3 := ns2_three ns c.1 (List.mem_map.mpr ⟨c, hc, rfl⟩)
      refine three_words c.1 c3 z ?_
      rw [ch_makers] at hz
      rcases List.mem_cons.mp hz with h | h
      · exact h ▸ List.mem_cons_self ..
      · refine List.mem_cons_of_mem _ ?_
        exact (List.Sublist.cons_cons _ (mkr_sub c.1 _ 3 0 (ok c hc).2.1)).subset h
    · have : z = "step" := by
        rcases List.mem_cons.mp hz with h | h
        · exact h
        · cases (show z ∈ ([] : List Str) from h)
      subst this
      decide +kernel
  · have n := ns2_names ns
    unfold nms
    rcases hd with rfl | rfl
    · rw [List.map_append, names_map]
      show (("num" :: "flag" :: (M.map (·.1) ++ (["step"] : List Str)) : List Str)).Nodup
      refine List.Perm.nodup_iff ?_ |>.mpr n
      refine List.Perm.cons _ (List.Perm.cons _ ?_)
      exact List.perm_append_singleton ..
    · rw [List.map_cons, names_map]
      exact n
  · have n := (makers_sub M fun c hc => (ok c hc).2.1).nodup (ns2_makers ns)
    rcases hd with rfl | rfl
    · rw [List.map_append, List.flatten_append]
      show (_ ++ ([] : List Str)).Nodup
      rw [List.append_nil]
      exact n
    · exact n
  · intro d hd' k hk
    rcases mem d hd' with ⟨c, hc, rfl⟩ | rfl
    · rw [ch_kinds] at hk
      obtain ⟨hz, l3, h⟩ := ok c hc
      rcases List.mem_append.mp hk with hk | hk
      · rcases hz with hz | hz <;> rw [hz] at hk
        · rw [List.mem_singleton.mp hk]
          exact nin _ (by unfold evry; simp)
        · cases hk
      · obtain ⟨zs, hzs, hk⟩ := List.mem_flatten.mp hk
        exact nin k ((h zs hzs).2 k hk)
    · rw [step_kinds] at hk
      rcases List.mem_append.mp hk with hk | hk
      · exact nin k (wm k hk)
      · rw [List.mem_singleton.mp hk]
        exact nin _ (by unfold evry; simp)
  · rcases hd with rfl | rfl <;> simp only [List.length_append, List.length_map, List.length_cons, List.length_nil] <;> omega
theorem drawn_fine {L : List Ch} {w : List Str} (D : Drawn L w) : isKinds (.list (L.map ch ++ [stepD w])) = true := isKinds_iff.mpr (fine_of (.inl D.nm) D.ok D.wl D.wm (.inl rfl))
theorem drawn_fine_rev {L : List Ch} {w : List Str} (D : Drawn L w) : isKinds (.list (L.map ch ++ [stepD w]).reverse) = true := by
  have e1 : (L.map ch ++ [stepD w]).reverse = stepD w :: (L.reverse.map ch) := by
    rw [List.reverse_append, List.map_reverse]
    rfl
  have e2 : L.reverse.map (·.1) = (L.map (·.1)).reverse := List.map_reverse
  have ev : ∀ k, k ∈ evry (L.map (·.1)) → k ∈ evry (L.reverse.map (·.1)) := by
    intro k hk
    rw [e2]
    unfold evry at *
    rcases List.mem_append.mp hk with h | h
    · exact List.mem_append.mpr (.inl h)
    · exact List.mem_append.mpr (.inr (List.mem_reverse.mpr h))
  refine isKinds_iff.mpr (fine_of (M := L.reverse) (w := w) (.inr (by rw [e2, List.reverse_reverse]; exact D.nm)) (fun c hc => ?_) D.wl (fun z hz => ev z (D.wm z hz)) (.inr e1))
  obtain ⟨hz, l3, h⟩ := D.ok c (List.mem_reverse.mp hc)
  exact ⟨hz, l3, fun zs hzs => ⟨(h zs hzs).1, fun z hz => ev z ((h zs hzs).2 z hz)⟩⟩
end Cb
set_option Elab.async false
set_option linter.all false
set_option maxRecDepth 100000
set_option maxHeartbeats 4000000
namespace Cb
open PySem PySem.Spec PyProof.Rows L2
/-! ### the bent ones: wrong, and of a bounded size -/
abbrev W5 : List Nat := [4, 9, 2, 5, 1]
abbrev W6 : List Nat := [14, 4, 9, 2, 5, 1]
theorem w6_ok : (∀ w ∈ W6, w < 1000) ∧ W6.length ≤ 60 ∧ bulk W6 ≤ 2 ^ 20 := by decide +kernel
def Sized (d : PyData) : Prop := d = .dict [] ∨ ∃ ws : List Nat, Fits ws d ∧ ws.length ≤ 60 ∧ bulk ws ≤ 2 ^ 20
def Bad (d : PyData) : Prop := isKinds d = false ∧ Sized d
theorem sized6 {d : PyData} (h : fit W6 d = true) : Sized d := .inr ⟨W6, fits_of W6 w6_ok.1 d h, w6_ok.2.1, w6_ok.2.2⟩
theorem sized5 {d : PyData} (h : fit W5 d = true) : Sized d := .inr ⟨W5, fits_of W5 (by decide) d h, by decide, by decide +kernel⟩
def strF (z : Str) : Bool := PyData.strOk z && decide (z.length ≤ 40)
theorem fit_str {ws : List Nat} {z : Str} : fit ws (.str z) = strF z := by cases ws <;> rfl
theorem fit_list {w : Nat} {ws : List Nat} {ds : List PyData} : fit (w :: ws) (.list ds) = (decide (ds.length ≤ w) && ds.all (fit ws)) := by simp only [fit]
theorem fit_tup {w : Nat} {ws : List Nat} {ds : List PyData} : fit (w :: ws) (.tuple ds) = (decide (ds.length ≤ w) && ds.all (fit ws)) := by simp only [fit]
theorem fit_none {ws : List Nat} : fit ws .none = true := by cases ws <;> rfl
theorem fitL {w : Nat} {ws : List Nat} {ds : List PyData} (l : ds.length ≤ w) (h : ∀ d ∈ ds, fit ws d = true) : fit (w :: ws) (.list ds) = true := by
  rw [fit_list, decide_eq_true l, Bool.true_and]
  exact List.all_eq_true.mpr h
theorem fitT {w : Nat} {ws : List Nat} {ds : List PyData} (l : ds.length ≤ w) (h : ∀ d ∈ ds, fit ws d = true) : fit (w :: ws) (.tuple ds) = true := by
  rw [fit_tup, decide_eq_true l, Bool.true_and]
  exact List.all_eq_true.mpr h
theorem fits2 {ws : List Nat} {a b : PyData} (ha : fit ws a = true) (hb : fit ws b = true) : ∀ d ∈ [a, b], fit ws d = true := by
  intro d h
  rcases List.mem_cons.mp h with rfl | h
  · exact ha
  · rw [List.mem_singleton.mp h]
    exact hb
theorem fits3 {ws : List Nat} {a b c : PyData} (ha : fit ws a = true) (hb : fit ws b = true) (hc : fit ws c = true) : ∀ d ∈ [a, b, c], fit ws d = true := by
  intro d h
  rcases List.mem_cons.mp h with rfl | h
  · exact ha
  · exact fits2 hb hc d h
theorem fits4 {ws : List Nat} {a b c e : PyData} (ha : fit ws a = true) (hb : fit ws b = true) (hc : fit ws c = true) (he : fit ws e = true) : ∀ d ∈ [a, b, c, e], fit ws d = true := by
  intro d h
  rcases List.mem_cons.mp h with rfl | h
  · exact ha
  · exact fits3 hb hc he d h
theorem six_strF : ∀ z ∈ six, strF z = true := by
  have : six.all strF = true := by decide +kernel
  exact fun z hz => List.all_eq_true.mp this z hz
theorem fit_strs {ws : List Nat} {zs : List Str} (h : ∀ z ∈ zs, z ∈ six) : ∀ d ∈ zs.map PyData.str, fit ws d = true := by
  intro d hd
  obtain ⟨z, hz, rfl⟩ := List.mem_map.mp hd
  rw [fit_str]
  exact six_strF z (h z hz)
def ts (i : Int) : Str := (toString i : String)
theorem three_strF : ∀ n ∈ three, (∀ z ∈ n :: mkn n 3, strF z = true) ∧ ∀ j : Nat, j < 9 → strF ((hd1 n ++ "zero") ++ ts (j : Int)) = true := by
  have h1 : (three.all fun n => (n :: mkn n 3).all strF) = true := by decide +kernel
  have h2 : (three.all fun n => (List.range 9).all fun j => strF ((hd1 n ++ "zero") ++ ts (j : Int))) = true := by decide +kernel
  intro n hn
  refine ⟨fun z hz => List.all_eq_true.mp (List.all_eq_true.mp h1 n hn) z hz, fun j hj => ?_⟩
  exact List.all_eq_true.mp (List.all_eq_true.mp h2 n hn) j (List.mem_range.mpr hj)
theorem evry_six {ns : List Str} (h : ∀ n ∈ ns, n ∈ three) : ∀ z ∈ evry ns, z ∈ six := by
  intro z hz
  rcases List.mem_append.mp hz with hz | hz
  · exact (show ∀ z ∈ (["num", "flag", "step"] : List Str), z ∈ six by decide +kernel) z hz
  · exact (show ∀ z ∈ three, z ∈ six by decide +kernel) z (h z hz)
theorem rest1_fit {n : Str} (hn : n ∈ three) {ws : List Nat} : ∀ (zss : List (List Str)) (j : Nat), j + zss.length ≤ 3 → (∀ zs ∈ zss, zs.length ≤ 4 ∧ ∀ z ∈ zs, z ∈ six) → ∀ d ∈ rest1 n j zss, fit (2 :: 5 :: ws) d = true
  | [], j, _, _, d, hd => by cases hd
  | zs :: zss, j, l, h, d, hd => by
    have l' : j + (zss.length + 1) ≤ 3 := l
    rcases List.mem_cons.mp (show d ∈ PyData.tuple [.str (hd1 n ++ abc j), .list (zs.map .str)] :: rest1 n (j + 1) zss from hd) with rfl | hd
    · have h0 := h zs (List.mem_cons_self ..)
      refine fitT (by simp) (fits2 ?_ (fitL (by rw [List.length_map]; omega) (fit_strs h0.2)))
      rw [fit_str]
      have : (three.all fun n => (List.range 3).all fun j => strF (hd1 n ++ abc j)) = true := by decide +kernel
      exact List.all_eq_true.mp (List.all_eq_true.mp this n hn) j (List.mem_range.mpr (by omega))
    · exact rest1_fit hn zss (j + 1) (by omega) (fun z hz => h z (List.mem_cons_of_mem _ hz)) d hd
theorem mk1_fit {n : Str} (hn : n ∈ three) {z : List Str} {zss : List (List Str)} (hz : z = (["num"] : List Str) ∨ z = []) (l : zss.length ≤ 3) (h : ∀ zs ∈ zss, zs.length ≤ 4 ∧ ∀ z ∈ zs, z ∈ six) {ws : List Nat} : ∀ d ∈ mk1 n z zss, fit (2 :: 5 :: ws) d = true := by
  intro d hd
  rcases List.mem_cons.mp (show d ∈ PyData.tuple [.str (hd1 n ++ "zero"), .list (z.map .str)] :: rest1 n 0 zss from hd) with rfl | hd
  · refine fitT (by simp) (fits2 (by rw [fit_str]; exact (three_strF n hn).1 _ (by unfold mkn; simp)) (fitL ?_ (fit_strs ?_)))
    · rcases hz with rfl | rfl <;> decide
    · rcases hz with rfl | rfl
      · decide +kernel
      · intro z hz
        cases hz
  · exact rest1_fit hn zss 0 (by omega) h d hd
theorem mk1_len {n : Str} {z : List Str} {zss : List (List Str)} : (mk1 n z zss).length = zss.length + 1 := by
  unfold mk1
  rw [List.length_cons, rest1_len]
theorem ch_fit {ns : List Str} (hs : ∀ n ∈ ns, n ∈ three) {c : Ch} (hc : c.1 ∈ three) (ok : ChOk (evry ns) c) {ws : List Nat} : fit (4 :: 9 :: 2 :: 5 :: ws) (ch c) = true := by
  obtain ⟨hz, l, h⟩ := ok
  refine fitT (by simp) (fits3 (by rw [fit_str]; decide +kernel) (by rw [fit_str]; exact (three_strF c.1 hc).1 _ (List.mem_cons_self ..)) (fitL ?_ (mk1_fit hc hz l fun zs hzs => ⟨(h zs hzs).1, fun z m => evry_six hs z ((h zs hzs).2 z m)⟩)))
  rw [mk1_len]
  omega
theorem step_fit {w : List Str} (l : w.length ≤ 2) (h : ∀ z ∈ w, z ∈ six) {ws : List Nat} : fit (4 :: 9 :: 2 :: 5 :: ws) (stepD w) = true := by
  refine fitT (by simp) (fits4 (by rw [fit_str]; decide +kernel) (by rw [fit_str]; decide +kernel) (fitL (by rw [List.length_map]; omega) (fit_strs h)) (by rw [fit_str]; decide +kernel))
/-- what stands around the place that is bent -/
structure Env (A B : List PyData) (nm cn : Str) (z : PyData) (rest : List PyData) : Prop where
  fA : ∀ x ∈ A ++ B, fit W5 x = true
  len : A.length + B.length ≤ 12
  fn : strF nm = true
  fc : strF cn = true
  f9 : ∀ j : Nat, j < 9 → strF (cn ++ ts (j : Int)) = true
  fz : fit [5, 1] z = true
  fr : ∀ x ∈ rest, fit [2, 5, 1] x = true
  lr : rest.length ≤ 3
  stp : ∃ e ∈ A ++ B, declName e = ("step" : Str)
  nS : ∀ x ∈ A ++ B, declName x ∈ six
  nmS : nm ∈ six
abbrev mkE (cn : Str) (z : PyData) (rest : List PyData) : List PyData := .tuple [.str cn, z] :: rest
section
variable {A B : List PyData} {nm cn : Str} {z : PyData} {rest : List PyData}
theorem Env.put (E : Env A B nm cn z rest) {d : PyData} (hd : fit W5 d = true) (h : isKinds (.list (A ++ [d] ++ B)) = false) : Bad (.list (A ++ [d] ++ B)) := by
  refine ⟨h, sized6 (fitL ?_ ?_)⟩
  · have := E.len
    simp only [List.length_append, List.length_cons, List.length_nil]
    omega
  · intro x hx
    have : x = d ∨ x ∈ A ++ B := by
      simp only [List.mem_append, List.mem_cons, List.not_mem_nil, or_false] at hx ⊢
      rcases hx with (hx | hx) | hx
      · exact .inr (.inl hx)
      · exact .inl hx
      · exact .inr (.inr hx)
    rcases this with rfl | hx
    · exact hd
    · exact E.fA x hx
theorem Env.mks (E : Env A B nm cn z rest) : ∀ x ∈ mkE cn z rest, fit [2, 5, 1] x = true := by
  intro x hx
  rcases List.mem_cons.mp hx with rfl | hx
  · exact fitT (by simp) (fits2 (by rw [fit_str]; exact E.fc) E.fz)
  · exact E.fr x hx
theorem Env.mkL (E : Env A B nm cn z rest) : fit [9, 2, 5, 1] (.list (mkE cn z rest)) = true := fitL (by have := E.lr; simp only [List.length_cons]; omega) E.mks
theorem Env.mk' (E : Env A B nm cn z rest) {m : PyData} (hm : fit [2, 5, 1] m = true) : fit [9, 2, 5, 1] (.list (m :: rest)) = true := fitL (by have := E.lr; simp only [List.length_cons]; omega) fun x hx => by
  rcases List.mem_cons.mp hx with rfl | hx
  · exact hm
  · exact E.fr x hx
theorem Env.chd (E : Env A B nm cn z rest) {a b : PyData} (ha : fit [9, 2, 5, 1] a = true) (hb : fit [9, 2, 5, 1] b = true) : fit W5 (.tuple [.str "choice", a, b]) = true :=
  fitT (by simp) (fits3 (by rw [fit_str]; decide +kernel) ha hb)
def odds1 : List PyData := [.str "num", .str "flag", .str "let", .str "Kind", .str "1a", .str "", .str "a b", .str "a_b", .none, .int 7, .list [.str "list"], .str (manyS "a" 31), .str "step"]
theorem odds1_fit : ∀ d ∈ odds1, fit [9, 2, 5, 1] d = true ∧ fit [5, 1] d = true := by
  have : (odds1.all fun d => fit [9, 2, 5, 1] d && fit [5, 1] d) = true := by decide +kernel
  intro d hd
  exact Bool.and_eq_true_iff.mp (List.all_eq_true.mp this d hd)
theorem bad1a (E : Env A B nm cn z rest) {d : PyData} (h : d ∈ odds1) : Bad (.list (A ++ [.tuple [.str "choice", d, .list (mkE cn z rest)]] ++ B)) := by
  refine E.put (E.chd (odds1_fit d h).1 E.mkL) ?_
  simp only [odds1, List.mem_cons, List.not_mem_nil, or_false] at h
  rcases h with rfl | rfl | rfl | rfl | rfl | rfl | rfl | rfl | rfl | rfl | rfl | rfl | rfl
  · exact wrong_base (.inl rfl)
  · exact wrong_base (.inr rfl)
  · exact wrong_word (List.mem_cons_self ..) (show isWordS "let" = false by decide +kernel)
  · exact wrong_word (List.mem_cons_self ..) (show isWordS "Kind" = false by decide +kernel)
  · exact wrong_word (List.mem_cons_self ..) (show isWordS "1a" = false by decide +kernel)
  · exact wrong_word (List.mem_cons_self ..) (show isWordS "" = false by decide +kernel)
  · exact wrong_word (List.mem_cons_self ..) (show isWordS "a b" = false by decide +kernel)
  · exact wrong_word (List.mem_cons_self ..) (show isWordS "a_b" = false by decide +kernel)
  · exact wrong_form (by simp [declForm, isS])
  · exact wrong_form (by simp [declForm, isS])
  · exact wrong_form (by simp [declForm, isS])
  · exact wrong_word (List.mem_cons_self ..) (show isWordS (manyS "a" 31) = false by decide +kernel)
  · obtain ⟨e, m, he⟩ := E.stp
    exact wrong_name m he
/-- the first constructor's name, bent -/
def odd0 (d : PyData) : PyData := if isStr "step" d = true then .int 0 else d
theorem head_form {x y : PyData} (h : isMaker x = false) {nm : Str} : declForm (.tuple [.str "choice", .str nm, .list (x :: rest)]) = false := by
  simp [declForm, isMakers, h]
theorem bad1b (E : Env A B nm cn z rest) {d : PyData} (h : d ∈ odds1) : Bad (.list (A ++ [.tuple [.str "choice", .str nm, .list (.tuple [odd0 d, z] :: rest)]] ++ B)) := by
  have f0 : fit [5, 1] (odd0 d) = true := by
    unfold odd0
    split
    · decide +kernel
    · exact (odds1_fit d h).2
  refine E.put (E.chd (by rw [fit_str]; exact E.fn) (E.mk' (fitT (by simp) (fits2 f0 E.fz)))) ?_
  simp only [odds1, List.mem_cons, List.not_mem_nil, or_false] at h
  have word : ∀ s : Str, isStr "step" (.str s) = false → isWordS s = false → isKinds (.list (A ++ [.tuple [.str "choice", .str nm, .list (.tuple [odd0 (.str s), z] :: rest)]] ++ B)) = false := by
    intro s h1 h2
    unfold odd0
    rw [h1, if_neg (by decide)]
    exact wrong_word (List.mem_cons_of_mem _ (show s ∈ s :: rest.map nameOf from List.mem_cons_self ..)) h2
  rcases h with rfl | rfl | rfl | rfl | rfl | rfl | rfl | rfl | rfl | rfl | rfl | rfl | rfl
  · exact word _ (by decide +kernel) (by decide +kernel)
  · exact word _ (by decide +kernel) (by decide +kernel)
  · exact word _ (by decide +kernel) (by decide +kernel)
  · exact word _ (by decide +kernel) (by decide +kernel)
  · exact word _ (by decide +kernel) (by decide +kernel)
  · exact word _ (by decide +kernel) (by decide +kernel)
  · exact word _ (by decide +kernel) (by decide +kernel)
  · exact word _ (by decide +kernel) (by decide +kernel)
  · exact wrong_form (head_form (y := .none) rfl)
  · exact wrong_form (head_form (y := .none) rfl)
  · exact wrong_form (head_form (y := .none) rfl)
  · exact word _ (by decide +kernel) (by decide +kernel)
  · have e : odd0 (.str "step") = .int 0 := by
      unfold odd0
      rw [show isStr "step" (.str "step") = true by decide +kernel, if_pos rfl]
    rw [e]
    exact wrong_form (head_form (y := .none) rfl)
def odds2 : List PyData := [.list [.str "nowhere"], .tuple [.str "num"], .list [.int 7], .list [.str "Num"], .none, .str "num", .list [.str "num", .str "num", .str "num", .str "num", .str "num"], .list [.list [.str "num"]]]
theorem odds2_fit : ∀ d ∈ odds2, fit [9, 2, 5, 1] d = true ∧ fit [5, 1] d = true := by
  have : (odds2.all fun d => fit [9, 2, 5, 1] d && fit [5, 1] d) = true := by decide +kernel
  intro d hd
  exact Bool.and_eq_true_iff.mp (List.all_eq_true.mp this d hd)
theorem six_not : ∀ x ∈ six, ("nowhere" : Str) ∉ (x :: "num" :: "flag" :: six : List Str) ∧ ("Num" : Str) ∉ (x :: "num" :: "flag" :: six : List Str) := by decide +kernel
theorem bad2a (E : Env A B nm cn z rest) {d : PyData} (h : d ∈ odds2) : Bad (.list (A ++ [.tuple [.str "choice", .str nm, .list (.tuple [.str cn, d] :: rest)]] ++ B)) := by
  refine E.put (E.chd (by rw [fit_str]; exact E.fn) (E.mk' (fitT (by simp) (fits2 (by rw [fit_str]; exact E.fc) (odds2_fit d h).2)))) ?_
  simp only [odds2, List.mem_cons, List.not_mem_nil, or_false] at h
  have sn := six_not nm E.nmS
  rcases h with rfl | rfl | rfl | rfl | rfl | rfl | rfl | rfl
  · exact wrong_kind (k := "nowhere") E.nS (show ("nowhere" : Str) ∈ ([("nowhere" : Str)] ++ (rest.map partsOf).flatten) from List.mem_append.mpr (.inl (List.mem_cons_self ..))) sn.1
  · exact wrong_form (head_form (y := .none) (by simp [isMaker, isKindList, isS]))
  · exact wrong_form (head_form (y := .none) (by simp [isMaker, isKindList, isS]))
  · exact wrong_kind (k := "Num") E.nS (show ("Num" : Str) ∈ ([("Num" : Str)] ++ (rest.map partsOf).flatten) from List.mem_append.mpr (.inl (List.mem_cons_self ..))) sn.2
  · exact wrong_form (head_form (y := .none) (by simp [isMaker, isKindList, isS]))
  · exact wrong_form (head_form (y := .none) (by simp [isMaker, isKindList, isS]))
  · exact wrong_form (head_form (y := .none) (by simp [isMaker, isKindList, isS]))
  · exact wrong_form (head_form (y := .none) (by simp [isMaker, isKindList, isS]))
/-- the last one, bent -/
theorem bad2b {A : List PyData} (fA : ∀ x ∈ A, fit W5 x = true) (len : A.length ≤ 12) (nS : ∀ x ∈ A, declName x ∈ six) {d : PyData} (h : d ∈ odds2) : Bad (.list (A ++ [.tuple [.str "calls", .str "step", d, .str "num"]])) := by
  have e : A ++ [.tuple [.str "calls", .str "step", d, .str "num"]] = A ++ [.tuple [.str "calls", .str "step", d, .str "num"]] ++ [] := (List.append_nil _).symm
  have fd : fit W5 (.tuple [.str "calls", .str "step", d, .str "num"]) = true := fitT (by simp) (fits4 (by rw [fit_str]; decide +kernel) (by rw [fit_str]; decide +kernel) (odds2_fit d h).1 (by rw [fit_str]; decide +kernel))
  refine ⟨?_, sized6 (fitL ?_ ?_)⟩
  · rw [e]
    simp only [odds2, List.mem_cons, List.not_mem_nil, or_false] at h
    have sn := six_not "step" (by decide +kernel)
    have nS' : ∀ x ∈ A ++ [], declName x ∈ six := fun x hx => nS x (by simpa using hx)
    rcases h with rfl | rfl | rfl | rfl | rfl | rfl | rfl | rfl
    · exact wrong_kind (k := "nowhere") nS' (show ("nowhere" : Str) ∈ ([("nowhere" : Str)] ++ [strOf (.str "num")]) from List.mem_append.mpr (.inl (List.mem_cons_self ..))) sn.1
    · exact wrong_form (by simp [declForm, isKindList, isS])
    · exact wrong_form (by simp [declForm, isKindList, isS])
    · exact wrong_kind (k := "Num") nS' (show ("Num" : Str) ∈ ([("Num" : Str)] ++ [strOf (.str "num")]) from List.mem_append.mpr (.inl (List.mem_cons_self ..))) sn.2
    · exact wrong_form (by simp [declForm, isKindList, isS])
    · exact wrong_form (by simp [declForm, isKindList, isS])
    · exact wrong_form (by simp [declForm, isKindList, isS])
    · exact wrong_form (by simp [declForm, isKindList, isS])
  · simp only [List.length_append, List.length_cons, List.length_nil]
    omega
  · intro x hx
    rcases List.mem_append.mp hx with hx | hx
    · exact fA x hx
    · rw [List.mem_singleton.mp hx]
      exact fd
def nine (cn : Str) : List PyData := (List.range 9).map fun (j : Nat) => .tuple [.str (cn ++ ts (j : Int)), .list []]
def odds3 (cn : Str) (z : PyData) (rest : List PyData) : List PyData := [.list (mkE cn z rest ++ [.tuple [.str cn, z]]), .list [], .tuple [], .tuple (mkE cn z rest), .none, .list (nine cn), .list [.list [.str cn, z]], .list [.tuple [.str cn]]]
theorem nine_fit (E : Env A B nm cn z rest) : fit [9, 2, 5, 1] (.list (nine cn)) = true := by
  refine fitL (by simp [nine]) fun x hx => ?_
  obtain ⟨j, hj, rfl⟩ := List.mem_map.mp hx
  exact fitT (by simp) (fits2 (by rw [fit_str]; exact E.f9 j (List.mem_range.mp hj)) (by decide +kernel))
theorem bad3 (E : Env A B nm cn z rest) {d : PyData} (h : d ∈ odds3 cn z rest) : Bad (.list (A ++ [.tuple [.str "choice", .str nm, d]] ++ B)) := by
  have lr := E.lr
  have fm : fit [2, 5, 1] (.tuple [.str cn, z]) = true := fitT (by simp) (fits2 (by rw [fit_str]; exact E.fc) E.fz)
  have fd : fit [9, 2, 5, 1] d = true := by
    simp only [odds3, List.mem_cons, List.not_mem_nil, or_false] at h
    rcases h with rfl | rfl | rfl | rfl | rfl | rfl | rfl | rfl
    · refine fitL (by simp only [List.length_append, List.length_cons, List.length_nil]; omega) fun x hx => ?_
      rcases List.mem_append.mp hx with hx | hx
      · exact E.mks x hx
      · rw [List.mem_singleton.mp hx]
        exact fm
    · decide +kernel
    · decide +kernel
    · exact fitT (by simp only [List.length_cons]; omega) E.mks
    · exact fit_none
    · exact nine_fit E
    · refine fitL (by simp) fun x hx => ?_
      rw [List.mem_singleton.mp hx]
      exact fitL (by simp) (fits2 (by rw [fit_str]; exact E.fc) E.fz)
    · refine fitL (by simp) fun x hx => ?_
      rw [List.mem_singleton.mp hx]
      refine fitT (by simp) fun y hy => ?_
      rw [List.mem_singleton.mp hy, fit_str]
      exact E.fc
  refine E.put (E.chd (by rw [fit_str]; exact E.fn) fd) ?_
  simp only [odds3, List.mem_cons, List.not_mem_nil, or_false] at h
  rcases h with rfl | rfl | rfl | rfl | rfl | rfl | rfl | rfl
  · refine wrong_twice fun n => ?_
    have n2 : ((mkE cn z rest ++ [PyData.tuple [.str cn, z]]).map nameOf).Nodup := n
    rw [List.map_append] at n2
    exact (List.nodup_append.mp n2).2.2 cn (List.mem_cons_self ..) cn (List.mem_cons_self ..) rfl
  · exact wrong_form (by simp [declForm, isMakers])
  · exact wrong_form (by simp [declForm, isMakers])
  · exact wrong_form (by simp [declForm, isMakers])
  · exact wrong_form (by simp [declForm, isMakers])
  · exact wrong_form (by simp [declForm, isMakers, nine])
  · exact wrong_form (by simp [declForm, isMakers, isMaker])
  · exact wrong_form (by simp [declForm, isMakers, isMaker])
def odds4 (nm cn : Str) (z : PyData) (rest : List PyData) : List PyData := [.tuple [.str "choose", .str nm, .list (mkE cn z rest)], .list [.str "choice", .str nm, .list (mkE cn z rest)], .tuple [.str "choice", .str nm], .tuple [.str "choice", .str nm, .list (mkE cn z rest), .str "num"], .tuple [.str "calls", .str nm, .list [], .none], .tuple [.str "calls", .str nm, .list []]]
theorem bad4 (E : Env A B nm cn z rest) {d : PyData} (h : d ∈ odds4 nm cn z rest) : Bad (.list (A ++ [d] ++ B)) := by
  have fn : ∀ {ws : List Nat}, fit ws (.str nm) = true := by
    intro ws
    rw [fit_str]
    exact E.fn
  have fd : fit W5 d = true := by
    simp only [odds4, List.mem_cons, List.not_mem_nil, or_false] at h
    rcases h with rfl | rfl | rfl | rfl | rfl | rfl
    · exact fitT (by simp) (fits3 (by rw [fit_str]; decide +kernel) fn E.mkL)
    · exact fitL (by simp) (fits3 (by rw [fit_str]; decide +kernel) fn E.mkL)
    · exact fitT (by simp) (fits2 (by rw [fit_str]; decide +kernel) fn)
    · exact fitT (by simp) (fits4 (by rw [fit_str]; decide +kernel) fn E.mkL (by rw [fit_str]; decide +kernel))
    · exact fitT (by simp) (fits4 (by rw [fit_str]; decide +kernel) fn (by decide +kernel) fit_none)
    · exact fitT (by simp) (fits3 (by rw [fit_str]; decide +kernel) fn (by decide +kernel))
  refine E.put fd ?_
  have n1 : isStr "choice" (.str "choose") = false := by decide +kernel
  have n2 : isStr "calls" (.str "choice") = false := by decide +kernel
  have n3 : isStr "choice" (.str "calls") = false := by decide +kernel
  simp only [odds4, List.mem_cons, List.not_mem_nil, or_false] at h
  rcases h with rfl | rfl | rfl | rfl | rfl | rfl
  · exact wrong_form (by simp [declForm, n1])
  · exact wrong_form rfl
  · exact wrong_form rfl
  · exact wrong_form (by simp [declForm, n2])
  · exact wrong_form (by simp [declForm, isS])
  · exact wrong_form (by simp [declForm, n3])
end
end Cb
set_option Elab.async false
set_option linter.all false
set_option maxRecDepth 100000
set_option maxHeartbeats 4000000
namespace Cb
open PySem PySem.Spec PyProof.Rows L2
/-! ### the last ones -/
def wideD (i : Int) : PyData := .tuple [.str "choice", .str ("k" ++ ts i), .list [.tuple [.str ("m" ++ ts i), .list []]]]
def wideL : List PyData := (List.range 13).map fun (j : Nat) => wideD (j : Int)
theorem wide_fit : ∀ d ∈ wideL, fit W5 d = true := by
  have : ((List.range 13).all fun (j : Nat) => fit W5 (wideD (j : Int))) = true := by decide +kernel
  intro d hd
  obtain ⟨j, hj, rfl⟩ := List.mem_map.mp hd
  exact List.all_eq_true.mp this j hj
section
variable {L : List Ch} {w : List Str}
abbrev kd (L : List Ch) (w : List Str) : List PyData := L.map ch ++ [stepD w]
theorem Drawn.three (D : Drawn L w) : ∀ n ∈ L.map (·.1), n ∈ three := ns2_three (.inl D.nm)
theorem Drawn.len (D : Drawn L w) : 1 ≤ L.length ∧ L.length ≤ 3 := by
  have e : L.length = (L.map (·.1)).length := (List.length_map ..).symm
  rw [e]
  rcases D.nm with h | h | h <;> rw [h] <;> decide
theorem Drawn.fits (D : Drawn L w) : ∀ d ∈ kd L w, fit W5 d = true := by
  intro d hd
  rcases List.mem_append.mp hd with h | h
  · obtain ⟨c, hc, rfl⟩ := List.mem_map.mp h
    exact ch_fit D.three (D.three _ (List.mem_map.mpr ⟨c, hc, rfl⟩)) (D.ok c hc)
  · rw [List.mem_singleton.mp h]
    exact step_fit D.wl fun z hz => evry_six D.three z (D.wm z hz)
theorem Drawn.fits6 (D : Drawn L w) : fit W6 (.list (kd L w)) = true := by
  refine fitL ?_ D.fits
  have := D.len
  simp only [List.length_append, List.length_map, List.length_cons, List.length_nil]
  omega
theorem Drawn.rfits6 (D : Drawn L w) : fit W6 (.list (kd L w).reverse) = true := by
  refine fitL ?_ fun d hd => D.fits d (List.mem_reverse.mp hd)
  have := D.len
  simp only [List.length_reverse, List.length_append, List.length_map, List.length_cons, List.length_nil]
  omega
theorem Drawn.six (D : Drawn L w) : ∀ d ∈ kd L w, declName d ∈ six := by
  intro d hd
  rcases List.mem_append.mp hd with h | h
  · obtain ⟨c, hc, rfl⟩ := List.mem_map.mp h
    exact (show ∀ z ∈ Cb.three, z ∈ Cb.six by decide +kernel) _ (D.three _ (List.mem_map.mpr ⟨c, hc, rfl⟩))
  · rw [List.mem_singleton.mp h]
    exact (show ("step" : Str) ∈ Cb.six by decide +kernel)
/-- the surroundings of the i-th -/
theorem Drawn.env (D : Drawn L w) {i : Nat} {c : Ch} (hc : L[i]? = some c) : Env ((kd L w).take i) ((kd L w).drop (i + 1)) c.1 (hd1 c.1 ++ "zero") (.list (c.2.1.map .str)) (rest1 c.1 0 c.2.2) := by
  have cm := List.mem_of_getElem? hc
  have hi : i < L.length := (List.getElem?_eq_some_iff.mp hc).1
  have c3 := D.three _ (List.mem_map.mpr ⟨c, cm, rfl⟩)
  have ok := D.ok c cm
  have sub : ∀ x ∈ (kd L w).take i ++ (kd L w).drop (i + 1), x ∈ kd L w := by
    intro x hx
    rcases List.mem_append.mp hx with hx | hx
    · exact List.mem_of_mem_take hx
    · exact List.mem_of_mem_drop hx
  refine ⟨fun x hx => D.fits x (sub x hx), ?_, ?_, ?_, (three_strF c.1 c3).2, ?_, ?_, ?_, ?_, fun x hx => D.six x (sub x hx), ?_⟩
  · have := D.len
    simp only [List.length_take, List.length_drop, List.length_append, List.length_map, List.length_cons, List.length_nil]
    omega
  · exact (three_strF c.1 c3).1 _ (List.mem_cons_self ..)
  · exact (three_strF c.1 c3).1 _ (by unfold mkn; simp)
  · refine fitL ?_ (fit_strs ?_)
    · rcases ok.1 with h | h <;> rw [h] <;> decide
    · rcases ok.1 with h | h <;> rw [h]
      · decide +kernel
      · intro z hz
        cases hz
  · exact rest1_fit c3 c.2.2 0 (by have := ok.2.1; omega) fun zs hzs => ⟨(ok.2.2 zs hzs).1, fun z m => evry_six D.three z ((ok.2.2 zs hzs).2 z m)⟩
  · rw [rest1_len]
    exact ok.2.1
  · refine ⟨stepD w, List.mem_append.mpr (.inr ?_), rfl⟩
    rw [List.drop_append_of_le_length (by rw [List.length_map]; omega)]
    simp
  · exact (show ∀ z ∈ Cb.three, z ∈ Cb.six by decide +kernel) _ c3
def lasts (L : List Ch) (w : List Str) : List PyData := [.list (kd L w ++ (kd L w).take 1), .tuple (kd L w), .none, ch (L.headD ("", [], [])), .list wideL, .list (wideL.take 12 ++ [.none]), .list (kd L w ++ [.tuple [.str "calls", .str "more", .list [.str "num"], .str "gone"]]), .dict []]
theorem bad_lasts (D : Drawn L w) : ∀ d ∈ lasts L w, Bad d := by
  intro d h
  have ln := D.len
  have lk : (kd L w).length = L.length + 1 := by simp [kd]
  simp only [lasts, List.mem_cons, List.not_mem_nil, or_false] at h
  rcases h with rfl | rfl | rfl | rfl | rfl | rfl | rfl | rfl
  · cases hL : L with
    | nil => rw [hL] at ln; simp at ln
    | cons c r =>
      have hD := D
      rw [hL] at hD
      refine ⟨?_, sized6 (fitL ?_ ?_)⟩
      · have e : (kd (c :: r) w ++ (kd (c :: r) w).take 1) = kd (c :: r) w ++ [ch c] ++ [] := by
          rw [List.append_nil]
          rfl
        rw [e]
        exact wrong_name (e := ch c) (by rw [List.append_nil]; exact List.mem_cons_self ..) rfl
      · rw [hL] at lk
        simp only [List.length_append, List.length_take, lk]
        rw [hL] at ln
        simp only [List.length_cons] at ln ⊢
        omega
      · intro x hx
        rcases List.mem_append.mp hx with hx | hx
        · exact hD.fits x hx
        · exact hD.fits x (List.mem_of_mem_take hx)
  · exact ⟨rfl, sized6 (fitT (by omega) D.fits)⟩
  · exact ⟨rfl, sized6 fit_none⟩
  · cases hL : L with
    | nil => rw [hL] at ln; simp at ln
    | cons c r =>
      have hD := D
      rw [hL] at hD
      exact ⟨rfl, sized5 (ch_fit hD.three (hD.three _ (List.mem_cons_self ..)) (hD.ok c (List.mem_cons_self ..)))⟩
  · exact ⟨wrong_long (by simp [wideL]), sized6 (fitL (by simp [wideL]) wide_fit)⟩
  · refine ⟨wrong_long (by simp [wideL]), sized6 (fitL (by simp [wideL]) fun x hx => ?_)⟩
    rcases List.mem_append.mp hx with hx | hx
    · exact wide_fit x (List.mem_of_mem_take hx)
    · rw [List.mem_singleton.mp hx]
      exact fit_none
  · refine ⟨?_, sized6 (fitL ?_ ?_)⟩
    · have e : kd L w ++ [PyData.tuple [.str "calls", .str "more", .list [.str "num"], .str "gone"]] = kd L w ++ [.tuple [.str "calls", .str "more", .list [.str "num"], .str "gone"]] ++ [] := (List.append_nil _).symm
      rw [e]
      refine wrong_kind (S := Cb.six) (k := "gone") (fun x hx => D.six x (by simpa using hx)) (show ("gone" : Str) ∈ ([("num" : Str)] ++ [("gone" : Str)]) by simp) (show ("gone" : Str) ∉ ("more" :: "num" :: "flag" :: Cb.six : List Str) by decide +kernel)
    · simp only [List.length_append, lk, List.length_cons, List.length_nil]
      omega
    · intro x hx
      rcases List.mem_append.mp hx with hx | hx
      · exact D.fits x hx
      · rw [List.mem_singleton.mp hx]
        decide +kernel
  · exact ⟨rfl, .inl rfl⟩
end
end Cb
set_option Elab.async false
set_option linter.all false
set_option maxRecDepth 100000
set_option maxHeartbeats 4000000
namespace Cb
open PySem PySem.Spec PyProof.Rows L2
/-! ### to which choice kinds one comes -/
abbrev Row := Str × List PyData
def isCh : PyData → Bool
  | .tuple (x :: _) => isStr "choice" x
  | _ => false
def makersOf : PyData → List PyData
  | .tuple [_, _, .list ms] => ms
  | _ => []
def rowsOf (ds : List PyData) : List Row := (ds.filter isCh).map fun d => (declName d, makersOf d)
def nmsOf (rows : List Row) : List Str := rows.map (·.1)
def partsIn (ms : List PyData) : List Str := (ms.map partsOf).flatten
def Nx (rows : List Row) (n p : Str) : Prop := ∃ ms, (n, ms) ∈ rows ∧ p ∈ partsIn ms ∧ p ∈ nmsOf rows
inductive Rch (rows : List Row) (a : Str) : Str → Prop
  | refl : Rch rows a a
  | step {b c : Str} : Rch rows a b → Nx rows b c → Rch rows a c
theorem Rch.in_ {rows : List Row} {a z : Str} (h : Rch rows a z) (ha : a ∈ nmsOf rows) : z ∈ nmsOf rows := by
  cases h with
  | refl => exact ha
  | step _ n => exact n.choose_spec.2.2
/-- closed sets hold all -/
theorem Rch.closed {rows : List Row} {a : Str} {S : Str → Prop} (ha : S a) (cl : ∀ n p, S n → Nx rows n p → S p) : ∀ {z}, Rch rows a z → S z
  | _, .refl => ha
  | _, .step h n => cl _ _ (Rch.closed ha cl h) n
/-! ### the program's way -/
abbrev Kw := Kv × List Str
def stepP (ns : List Str) (st : Kw) (p : Str) : Kw := if (decide (p ∈ ns) && !kHas st.1 p) = true then (addK st.1 p, st.2 ++ [p]) else st
def goPs (ns : List Str) (st : Kw) (ps : List Str) : Kw := ps.foldl (stepP ns) st
def cnt (ns : List Str) (fs : Kv) : Nat := (ns.filter fun z => !kHas fs z).length
theorem cnt_add {fs : Kv} {p : Str} : ∀ {ns : List Str}, p ∈ ns → kHas fs p = false → cnt ns (addK fs p) + 1 ≤ cnt ns fs
  | [], h, _ => by cases h
  | n :: ns, h, e => by
    have le : ∀ ms : List Str, cnt ms (addK fs p) ≤ cnt ms fs := by
      intro ms
      induction ms with
      | nil => exact Nat.le_refl _
      | cons m ms ih =>
        unfold cnt at ih ⊢
        rw [List.filter_cons, List.filter_cons, kHas_add]
        by_cases q : m = p
        · subst q
          simp only [decide_true, Bool.true_or, Bool.not_true, Bool.false_eq_true, if_false, e, Bool.not_false, if_true, List.length_cons]
          omega
        · rw [decide_eq_false q, Bool.false_or]
          split <;> first | (simp only [List.length_cons]; omega) | omega
    by_cases q : n = p
    · subst q
      have := le ns
      unfold cnt at this ⊢
      rw [List.filter_cons, List.filter_cons, kHas_add]
      simp only [decide_true, Bool.true_or, Bool.not_true, Bool.false_eq_true, if_false, e, Bool.not_false, if_true, List.length_cons]
      omega
    · have hp : p ∈ ns := (List.mem_cons.mp h).resolve_left fun z => q z.symm
      have := cnt_add hp e
      unfold cnt at this ⊢
      rw [List.filter_cons, List.filter_cons, kHas_add, decide_eq_false q, Bool.false_or]
      split <;> first | (simp only [List.length_cons]; omega) | omega
structure Go (ns : List Str) (st : Kw) (ps : List Str) (st' : Kw) : Prop where
  mono : ∀ z, kHas st.1 z = true → kHas st'.1 z = true
  has : ∀ p ∈ ps, p ∈ ns → kHas st'.1 p = true
  new : ∀ z, kHas st'.1 z = true → kHas st.1 z = true ∨ (z ∈ ps ∧ z ∈ ns)
  wait : ∀ z, kHas st'.1 z = true → kHas st.1 z = true ∨ z ∈ st'.2
  keepw : ∀ z ∈ st.2, z ∈ st'.2
  waitin : ∀ z ∈ st'.2, z ∈ st.2 ∨ kHas st'.1 z = true
  meas : 2 * cnt ns st'.1 + st'.2.length ≤ 2 * cnt ns st.1 + st.2.length
  len : st'.1.length + cnt ns st'.1 ≤ st.1.length + cnt ns st.1
theorem goPs_go (ns : List Str) : ∀ (ps : List Str) (st : Kw), Go ns st ps (goPs ns st ps)
  | [], st => ⟨fun _ h => h, fun _ h => (by cases h), fun _ h => .inl h, fun _ h => .inl h, fun _ h => h, fun _ h => .inl h, Nat.le_refl _, Nat.le_refl _⟩
  | p :: ps, st => by
    have ih := goPs_go ns ps (stepP ns st p)
    show Go ns st (p :: ps) (goPs ns (stepP ns st p) ps)
    by_cases h : (decide (p ∈ ns) && !kHas st.1 p) = true
    · have e : stepP ns st p = (addK st.1 p, st.2 ++ [p]) := if_pos h
      obtain ⟨hp, hk⟩ := Bool.and_eq_true_iff.mp h
      have hp := of_decide_eq_true hp
      have hk : kHas st.1 p = false := by simpa using hk
      rw [e] at ih ⊢
      have cc := cnt_add hp hk
      have la := addK_len st.1 p
      have hh : ∀ z, kHas (addK st.1 p) z = true ↔ z = p ∨ kHas st.1 z = true := fun z => by rw [kHas_add]; simp
      refine ⟨fun z hz => ih.mono z ((hh z).mpr (.inr hz)), ?_, ?_, ?_, ?_, ?_, ?_, ?_⟩
      · intro q hq hn
        rcases List.mem_cons.mp hq with rfl | hq
        · exact ih.mono _ ((hh _).mpr (.inl rfl))
        · exact ih.has q hq hn
      · intro z hz
        rcases ih.new z hz with a | ⟨a, b⟩
        · rcases (hh z).mp a with rfl | a
          · exact .inr ⟨List.mem_cons_self .., hp⟩
          · exact .inl a
        · exact .inr ⟨List.mem_cons_of_mem _ a, b⟩
      · intro z hz
        rcases ih.wait z hz with a | a
        · rcases (hh z).mp a with rfl | a
          · exact .inr (ih.keepw _ (by simp))
          · exact .inl a
        · exact .inr a
      · intro z hz
        exact ih.keepw z (List.mem_append_left _ hz)
      · intro z hz
        rcases ih.waitin z hz with a | a
        · rcases List.mem_append.mp a with a | a
          · exact .inl a
          · rw [List.mem_singleton.mp a]
            exact .inr (ih.mono _ ((hh _).mpr (.inl rfl)))
        · exact .inr a
      · have := ih.meas
        simp only [List.length_append, List.length_cons, List.length_nil] at this
        omega
      · have := ih.len
        simp only at this
        omega
    · have e : stepP ns st p = st := if_neg h
      rw [e] at ih ⊢
      refine ⟨ih.mono, ?_, ?_, ih.wait, ih.keepw, ih.waitin, ih.meas, ih.len⟩
      · intro q hq hn
        rcases List.mem_cons.mp hq with rfl | hq
        · refine ih.mono _ ?_
          rw [decide_eq_true hn, Bool.true_and] at h
          simpa using h
        · exact ih.has q hq hn
      · intro z hz
        rcases ih.new z hz with a | ⟨a, b⟩
        · exact .inl a
        · exact .inr ⟨List.mem_cons_of_mem _ a, b⟩
theorem goPs_app (ns : List Str) (st : Kw) (a b : List Str) : goPs ns st (a ++ b) = goPs ns (goPs ns st a) b := List.foldl_append
/-- what holds at the head of the while -/
structure Wh (rows : List Row) (a : Str) (st : Kw) : Prop where
  name : kHas st.1 a = true
  sound : ∀ z, kHas st.1 z = true → Rch rows a z
  closed : ∀ n, kHas st.1 n = true → n ∉ st.2 → ∀ p, Nx rows n p → kHas st.1 p = true
  sub : ∀ z ∈ st.2, kHas st.1 z = true
theorem Wh.start {rows : List Row} {a : Str} : Wh rows a ([(Sum.inr a, V.bl true)], [a]) := by
  have hh : ∀ z, kHas [(Sum.inr a, V.bl true)] z = true ↔ z = a := fun z => by
    unfold kHas
    by_cases h : z = a
    · rw [valV_pos (p := (Sum.inr a, V.bl true)) (congrArg Sum.inr h.symm)]
      simp [h]
    · rw [valV_neg (p := (Sum.inr a, V.bl true)) (fun e => h (Sum.inr.inj e).symm)]
      simp [h, valV]
  refine ⟨(hh a).mpr rfl, fun z hz => (hh z).mp hz ▸ .refl, fun n hn h => ?_, fun z hz => (hh z).mpr (List.mem_singleton.mp hz)⟩
  exact absurd (List.mem_singleton.mpr ((hh n).mp hn)) h
theorem Wh.turn {rows : List Row} {a k : Str} {fs : Kv} {ws : List Str} {ms : List PyData} (h : Wh rows a (fs, ws ++ [k])) (hk : (k, ms) ∈ rows) (uniq : ∀ ms', (k, ms') ∈ rows → ms' = ms) : Wh rows a (goPs (nmsOf rows) (fs, ws) (partsIn ms)) := by
  have G := goPs_go (nmsOf rows) (partsIn ms) (fs, ws)
  have hkf : kHas fs k = true := h.sub k (by simp)
  refine ⟨G.mono _ h.name, ?_, ?_, ?_⟩
  · intro z hz
    rcases G.new z hz with a1 | ⟨a1, a2⟩
    · exact h.sound z a1
    · exact .step (h.sound k hkf) ⟨ms, hk, a1, a2⟩
  · intro n hn nw p np
    by_cases e : n = k
    · subst e
      obtain ⟨ms', hm, hp, hn'⟩ := np
      rw [uniq _ hm] at hp
      exact G.has p hp hn'
    · rcases G.wait n hn with a1 | a1
      · refine G.mono _ (h.closed n a1 ?_ p np)
        intro m
        rcases List.mem_append.mp m with m | m
        · exact nw (G.keepw n m)
        · exact e (List.mem_singleton.mp m)
      · exact absurd a1 nw
  · intro z hz
    rcases G.waitin z hz with a1 | a1
    · exact G.mono _ (h.sub z (List.mem_append_left _ a1))
    · exact a1
theorem Wh.fin {rows : List Row} {a : Str} {fs : Kv} (h : Wh rows a (fs, [])) (z : Str) : kHas fs z = true ↔ Rch rows a z :=
  ⟨h.sound z, fun r => Rch.closed (S := fun z => kHas fs z = true) h.name (fun n p hn np => h.closed n hn (by simp) p np) r⟩
/-! ### the law's way -/
def nfs : List Str := ["num", "flag", "step"]
def lawM (zs ps : List Str) : List Str := zs ++ ps.filter fun p => !decide (p ∈ nfs) && !decide (p ∈ zs)
def lcnt (ns zs : List Str) : Nat := (ns.filter fun n => decide (n ∈ zs)).length
theorem filter_le {α : Type} {f g : α → Bool} : ∀ {l : List α}, (∀ x ∈ l, f x = true → g x = true) → (l.filter f).length ≤ (l.filter g).length
  | [], _ => Nat.le_refl _
  | x :: l, h => by
    have ih := filter_le (l := l) fun y hy => h y (List.mem_cons_of_mem _ hy)
    rw [List.filter_cons, List.filter_cons]
    cases e : f x with
    | true => rw [h x (List.mem_cons_self ..) e, if_pos rfl, if_pos rfl]; simp only [List.length_cons]; omega
    | false => rw [if_neg (by decide)]; split <;> first | (simp only [List.length_cons]; omega) | omega
theorem filter_lt {α : Type} {f g : α → Bool} {x : α} : ∀ {l : List α}, (∀ x ∈ l, f x = true → g x = true) → x ∈ l → f x = false → g x = true → (l.filter f).length + 1 ≤ (l.filter g).length
  | [], _, h, _, _ => by cases h
  | y :: l, h, hx, e1, e2 => by
    have h' := fun y hy => h y (List.mem_cons_of_mem _ hy)
    rw [List.filter_cons, List.filter_cons]
    rcases List.mem_cons.mp hx with rfl | hx
    · have := filter_le h'
      rw [e1, e2, if_neg (by decide), if_pos rfl]
      simp only [List.length_cons]
      omega
    · have ih := filter_lt h' hx e1 e2
      cases e : f y with
      | true => rw [h y (List.mem_cons_self ..) e, if_pos rfl, if_pos rfl]; simp only [List.length_cons]; omega
      | false => rw [if_neg (by decide)]; split <;> first | (simp only [List.length_cons]; omega) | omega
theorem lawM_len (zs ps : List Str) : (lawM zs ps).length ≤ zs.length + ps.length := by
  unfold lawM
  rw [List.length_append]
  have := List.length_filter_le (fun p => !decide (p ∈ nfs) && !decide (p ∈ zs)) ps
  omega
theorem lawM_mono {zs ps : List Str} {z : Str} (h : z ∈ zs) : z ∈ lawM zs ps := List.mem_append_left _ h
theorem lawM_has {zs ps : List Str} {p : Str} (h : p ∈ ps) (n : p ∉ nfs) : p ∈ lawM zs ps := by
  unfold lawM
  by_cases m : p ∈ zs
  · exact List.mem_append_left _ m
  · refine List.mem_append_right _ (List.mem_filter.mpr ⟨h, ?_⟩)
    rw [decide_eq_false n, decide_eq_false m]
    rfl
theorem lawM_new {zs ps : List Str} {z : Str} (h : z ∈ lawM zs ps) : z ∈ zs ∨ (z ∈ ps ∧ z ∉ nfs) := by
  unfold lawM at h
  rcases List.mem_append.mp h with h | h
  · exact .inl h
  · obtain ⟨h1, h2⟩ := List.mem_filter.mp h
    obtain ⟨h3, _⟩ := Bool.and_eq_true_iff.mp h2
    exact .inr ⟨h1, by simpa using h3⟩
/-- the lists of declarations that the law draws -/
structure Lawful (rows : List Row) : Prop where
  uniq : ∀ n ms ms', (n, ms) ∈ rows → (n, ms') ∈ rows → ms = ms'
  parts : ∀ n ms, (n, ms) ∈ rows → ∀ p ∈ partsIn ms, p ∈ nfs ∨ p ∈ nmsOf rows
  nonfs : ∀ n ∈ nmsOf rows, n ∉ nfs
/-- within a maker's row -/
structure Lm (rows : List Row) (a : Str) (zs0 : List Str) (done : List PyData) (zs : List Str) : Prop where
  mono : ∀ z ∈ zs0, z ∈ zs
  sound : ∀ z ∈ zs, Rch rows a z
  has : ∀ m ∈ done, ∀ p ∈ partsOf m, p ∈ nmsOf rows → p ∈ zs
theorem Lm.step {rows : List Row} {a : Str} {zs0 zs : List Str} {done : List PyData} (L : Lawful rows) (h : Lm rows a zs0 done zs) {n : Str} {ms : List PyData} {m : PyData} (hn : (n, ms) ∈ rows) (hm : m ∈ ms) (hz : n ∈ zs0) : Lm rows a zs0 (done ++ [m]) (lawM zs (partsOf m)) := by
  have inp : ∀ p ∈ partsOf m, p ∈ partsIn ms := fun p hp => List.mem_flatten.mpr ⟨partsOf m, List.mem_map.mpr ⟨m, hm, rfl⟩, hp⟩
  refine ⟨fun z hz => lawM_mono (h.mono z hz), ?_, ?_⟩
  · intro z hz'
    rcases lawM_new hz' with hz' | ⟨h1, h2⟩
    · exact h.sound z hz'
    · exact .step (h.sound n (h.mono n hz)) ⟨ms, hn, inp z h1, (L.parts n ms hn z (inp z h1)).resolve_left h2⟩
  · intro m' hm' p hp hn'
    rcases List.mem_append.mp hm' with hm' | hm'
    · exact lawM_mono (h.has m' hm' p hp hn')
    · rw [List.mem_singleton.mp hm'] at hp
      exact lawM_has hp (L.nonfs p hn')
/-- within a turn -/
structure Lk (rows : List Row) (a : Str) (zs0 : List Str) (done : List Row) (zs : List Str) : Prop where
  mono : ∀ z ∈ zs0, z ∈ zs
  sound : ∀ z ∈ zs, Rch rows a z
  has : ∀ r ∈ done, r.1 ∈ zs0 → ∀ p ∈ partsIn r.2, p ∈ nmsOf rows → p ∈ zs
theorem Lk.step {rows : List Row} {a : Str} {zs0 zs zs' : List Str} {done : List Row} {r : Row} (h : Lk rows a zs0 done zs) (m : Lm rows a zs r.2 zs') : Lk rows a zs0 (done ++ [r]) zs' := by
  refine ⟨fun z hz => m.mono z (h.mono z hz), m.sound, ?_⟩
  intro r' hr' h0 p hp hn
  rcases List.mem_append.mp hr' with hr' | hr'
  · exact m.mono p (h.has r' hr' h0 p hp hn)
  · rw [List.mem_singleton.mp hr'] at hp
    obtain ⟨ps, hps, hp⟩ := List.mem_flatten.mp hp
    obtain ⟨mk, hmk, rfl⟩ := List.mem_map.mp hps
    exact m.has mk hmk p hp hn
theorem Lk.skip {rows : List Row} {a : Str} {zs0 zs : List Str} {done : List Row} {r : Row} (h : Lk rows a zs0 done zs) (n : r.1 ∉ zs) : Lk rows a zs0 (done ++ [r]) zs := by
  refine ⟨h.mono, h.sound, ?_⟩
  intro r' hr' h0 p hp hn
  rcases List.mem_append.mp hr' with hr' | hr'
  · exact h.has r' hr' h0 p hp hn
  · rw [List.mem_singleton.mp hr'] at h0
    exact absurd (h.mono _ h0) n
/-- between two turns -/
structure Lt (rows : List Row) (a : Str) (j : Nat) (zs : List Str) : Prop where
  name : a ∈ zs
  sound : ∀ z ∈ zs, Rch rows a z
  full : (∀ z, Rch rows a z → z ∈ zs) ∨ j + 1 ≤ lcnt (nmsOf rows) zs
theorem Lt.start {rows : List Row} {a : Str} (ha : a ∈ nmsOf rows) : Lt rows a 0 [a] := by
  refine ⟨by simp, fun z hz => List.mem_singleton.mp hz ▸ .refl, .inr ?_⟩
  unfold lcnt
  have : 1 ≤ ((nmsOf rows).filter fun n => decide (n ∈ [a])).length := List.length_pos_of_mem (List.mem_filter.mpr ⟨ha, by simp⟩)
  omega
theorem Lt.turn {rows : List Row} {a : Str} {j : Nat} {zs zs' : List Str} (h : Lt rows a j zs) (k : Lk rows a zs rows zs') : Lt rows a (j + 1) zs' := by
  refine ⟨k.mono _ h.name, k.sound, ?_⟩
  rcases h.full with f | f
  · exact .inl fun z hz => k.mono z (f z hz)
  · by_cases cl : ∀ n p, n ∈ zs → Nx rows n p → p ∈ zs
    · exact .inl fun z hz => k.mono z (Rch.closed (S := fun z => z ∈ zs) h.name cl hz)
    · refine .inr ?_
      obtain ⟨n, p, hn, np, hp⟩ : ∃ n p, n ∈ zs ∧ Nx rows n p ∧ p ∉ zs := by
        refine Classical.byContradiction fun q => cl fun n p hn np => Classical.byContradiction fun hp => q ⟨n, p, hn, np, hp⟩
      obtain ⟨ms, hm, hpm, hpn⟩ := np
      have := filter_lt (f := fun n => decide (n ∈ zs)) (g := fun n => decide (n ∈ zs')) (x := p) (l := nmsOf rows) (fun x _ hx => decide_eq_true (k.mono x (of_decide_eq_true hx))) hpn (decide_eq_false hp) (decide_eq_true (k.has (n, ms) hm hn p hpm hpn))
      unfold lcnt at f ⊢
      omega
theorem Lt.fin {rows : List Row} {a : Str} {j : Nat} {zs : List Str} (h : Lt rows a j zs) (hj : rows.length ≤ j) (z : Str) : z ∈ zs ↔ Rch rows a z := by
  refine ⟨h.sound z, ?_⟩
  rcases h.full with f | f
  · exact f z
  · exfalso
    have := List.length_filter_le (fun n => decide (n ∈ zs)) (nmsOf rows)
    have l : (nmsOf rows).length = rows.length := List.length_map ..
    unfold lcnt at f
    omega
end Cb
set_option Elab.async false
set_option linter.all false
set_option maxRecDepth 100000
set_option maxHeartbeats 4000000
namespace Cb
open PySem PySem.Spec PyProof.Rows L2 ExS
/-! ### a dict comprehension over a walk -/
theorem dc_it {J : It} {n : Nat} {G : Hp → Prop} {Y : Nat → Hp → V → Hp → Prop} (w : Walk J n G Y) {g : TG} {tt : TT} {tk tv : TE} {vs : List Nat} {σ : L2.St} {H1 : Hp} {D : Addr} {Qd : Hp → Prop} (Pv : Nat → Hp → Prop) (h0 : Pv 0 (upd H1 D (.dK []))) (hG : ∀ i H, i ≤ n → Pv i H → G H)
    (hs : ∀ i x H H', i < n → Pv i H → Y i H x H' → g x (wipe σ vs) H' fun σ2 H2 => wipe σ2 vs = wipe σ vs ∧ tt σ2 H2 fun b H3 =>
      if b = true then tk σ2 H3 fun y H4 => tv σ2 H4 fun z H5 => ∃ kvs k, y = kV k ∧ H5 D = some (.dK kvs) ∧ kvs.length < sizeLine ∧ Pv (i + 1) (upd H5 D (.dK (putK kvs k z))) else Pv (i + 1) H3) (hd : ∀ H, Pv n H → Qd H) :
    ∃ W : Nat → Nat → Hp → Prop, (∃ m, W 0 m (upd H1 D (.dK []))) ∧ ∀ i m H, W i m H →
      (J.stop i H ∧ Qd H) ∨ (J.go i H ∧ ∃ Nx : Hp → Prop, (∀ H', Nx H' → ∃ m', m' < m ∧ W (i + 1) m' H') ∧ ∀ x H', J.yld i H x H' → g x (wipe σ vs) H' fun σ2 H2 => wipe σ2 vs = wipe σ vs ∧ tt σ2 H2 fun b H3 =>
        if b = true then tk σ2 H3 fun y H4 => tv σ2 H4 fun z H5 => ∃ kvs k, y = kV k ∧ H5 D = some (.dK kvs) ∧ kvs.length < sizeLine ∧ Nx (upd H5 D (.dK (putK kvs k z))) else Nx H3) := by
  refine ⟨fun i m H => m = n - i ∧ i ≤ n ∧ Pv i H, ⟨n, by simp, Nat.zero_le _, h0⟩, ?_⟩
  rintro i m H ⟨rfl, hi, p⟩
  have q := hG i H hi p
  by_cases hlt : i < n
  · refine .inr ⟨w.goes i H hlt q, Pv (i + 1), fun H' p' => ⟨n - (i + 1), by omega, rfl, hlt, p'⟩, fun x H' y => hs i x H H' hlt p (w.yields i H x H' hlt q y)⟩
  · have e : i = n := by omega
    subst e
    exact .inl ⟨w.stops H q, hd H p⟩
abbrev s_choice_makers : Stmt := topS 26
theorem sc_choice_makers : FnScope ["kinds", "row"] ["kinds"] (defScope s_choice_makers) := ⟨rfl, rfl, rfl, by decide +kernel, rfl, by decide +kernel, by decide +kernel⟩
abbrev s_asked_makers : Stmt := topS 27
theorem sc_asked_makers : FnScope ["kinds", "name", "makers"] ["kinds", "name"] (defScope s_asked_makers) := ⟨rfl, rfl, rfl, by decide +kernel, rfl, by decide +kernel, by decide +kernel⟩
abbrev s_constructors : Stmt := topS 28
theorem sc_constructors : FnScope ["kinds", "name", "makers", "maker", "parts"] ["kinds", "name"] (defScope s_constructors) := ⟨rfl, rfl, rfl, by decide +kernel, rfl, by decide +kernel, by decide +kernel⟩
abbrev s_come_to : Stmt := topS 29
theorem sc_come_to : FnScope ["makers", "name", "found", "waiting", "kind", "_", "parts", "part"] ["makers", "name"] (defScope s_come_to) := ⟨rfl, rfl, rfl, by decide +kernel, rfl, by decide +kernel, by decide +kernel⟩
abbrev s_reached_in : Stmt := topS 30
theorem sc_reached_in : FnScope ["makers", "name", "found", "kind", "maker"] ["makers", "name"] (defScope s_reached_in) := ⟨rfl, rfl, rfl, by decide +kernel, rfl, by decide +kernel, by decide +kernel⟩
abbrev s_reached : Stmt := topS 31
theorem sc_reached : FnScope ["kinds", "name"] ["kinds", "name"] (defScope s_reached) := ⟨rfl, rfl, rfl, by decide +kernel, rfl, by decide +kernel, by decide +kernel⟩
structure TErr (P : Program) (K : PySem.W.Frag) (mg : Str → Option Value) (CL CK CB : Addr) : Prop where
  bL : BillX P K mg CL "InvalidList"
  bK : BillX P K mg CK "InvalidKind"
  gB : mg "BillError" = some (.ref CB)
  exm : ∀ C ∈ [CL, CK], PySem.W.exmOne K (.ref C) (.ref CB) = some true
  ec : ∀ C ∈ [CL, CK], ExcC K C ∧ XfC K C ∧ PySem.W.findIn K (.ref C) "value" = some none
  own : ∀ C ∈ [CL, CK], PySem.W.kitOne K (.ref C) (.ref C) = some true
  other : PySem.W.kitOne K (.ref CL) (.ref CK) = some false ∧ PySem.W.kitOne K (.ref CK) (.ref CL) = some false
structure TMk (P : Program) (K : PySem.W.Frag) (w : World) (mg : Str → Option Value) (CL CK CB : Addr) : Prop where
  tk : TKind K w mg
  te : TErr P K mg CL CK CB
  d_choice_makers : Has K mg "choice_makers" s_choice_makers ["kinds"]
  d_asked_makers : Has K mg "asked_makers" s_asked_makers ["kinds", "name"]
  d_constructors : Has2 K mg "constructors" s_constructors ["kinds", "name"] ["name", "kinds"] List.reverse
  d_come_to : Has K mg "come_to" s_come_to ["makers", "name"]
  d_reached_in : Has K mg "reached_in" s_reached_in ["makers", "name"]
  d_reached : Has2 K mg "reached" s_reached ["kinds", "name"] ["name", "kinds"] List.reverse
/-! ### a dict of the choice kinds -/
inductive MkRel (H : Hp) : Kv → List Row → Prop
  | nil : MkRel H [] []
  | cons {n : Str} {ml : Addr} {mv : List V} {ms : List PyData} {kvs : Kv} {rows : List Row} : H ml = some (.lst mv) → DTs H mv ms → ms.length ≤ 8 → ms.all isMaker = true → MkRel H kvs rows → MkRel H ((Sum.inr n, .ref ml) :: kvs) ((n, ms) :: rows)
theorem MkRel.same {H H' : Hp} (s : Same H H') {kvs : Kv} {rows : List Row} (h : MkRel H kvs rows) : MkRel H' kvs rows := by
  induction h with
  | nil => exact .nil
  | cons a b l c _ ih => exact .cons (s _ _ a) (b.same s _) l c ih
theorem MkRel.snoc {H : Hp} {n : Str} {ml : Addr} {mv : List V} {ms : List PyData} (a : H ml = some (.lst mv)) (b : DTs H mv ms) (l : ms.length ≤ 8) (c : ms.all isMaker = true) {kvs : Kv} {rows : List Row} (h : MkRel H kvs rows) : MkRel H (kvs ++ [(Sum.inr n, .ref ml)]) (rows ++ [(n, ms)]) := by
  induction h with
  | nil => exact .cons a b l c .nil
  | cons a' b' l' c' _ ih => exact .cons a' b' l' c' ih
theorem MkRel.length {H : Hp} {kvs : Kv} {rows : List Row} (h : MkRel H kvs rows) : kvs.length = rows.length := by
  induction h with
  | nil => rfl
  | cons _ _ _ _ _ ih => rw [List.length_cons, List.length_cons, ih]
theorem MkRel.has {H : Hp} {kvs : Kv} {rows : List Row} (h : MkRel H kvs rows) (z : Str) : kHas kvs z = decide (z ∈ nmsOf rows) := by
  induction h with
  | nil => rfl
  | @cons n ml mv ms kvs rows _ _ _ _ _ ih =>
    unfold kHas at ih ⊢
    by_cases e : n = z
    · subst e
      rw [valV_pos rfl]
      simp [nmsOf]
    · rw [valV_neg (fun q => e (Sum.inr.inj q)), ih]
      show decide (z ∈ nmsOf rows) = decide (z ∈ n :: nmsOf rows)
      simp [List.mem_cons, Ne.symm e]
theorem MkRel.at {H : Hp} {kvs : Kv} {rows : List Row} (h : MkRel H kvs rows) {i : Nat} {n : Str} {ms : List PyData} (e : rows[i]? = some (n, ms)) : ∃ ml mv, kvs[i]? = some (Sum.inr n, .ref ml) ∧ H ml = some (.lst mv) ∧ DTs H mv ms ∧ ms.length ≤ 8 ∧ ms.all isMaker = true := by
  induction h generalizing i with
  | nil => cases e
  | @cons n' ml mv ms' kvs rows a b l c _ ih =>
    cases i with
    | zero =>
      simp only [List.getElem?_cons_zero, Option.some.injEq, Prod.mk.injEq] at e
      obtain ⟨rfl, rfl⟩ := e
      exact ⟨ml, mv, rfl, a, b, l, c⟩
    | succ i =>
      rw [List.getElem?_cons_succ] at e
      obtain ⟨ml, mv, h1, h2⟩ := ih e
      exact ⟨ml, mv, by rw [List.getElem?_cons_succ]; exact h1, h2⟩
theorem MkRel.look {H : Hp} {kvs : Kv} {rows : List Row} (h : MkRel H kvs rows) {z : Str} (m : z ∈ nmsOf rows) : ∃ ms ml mv, (z, ms) ∈ rows ∧ valV kvs (Sum.inr z) = some (.ref ml) ∧ H ml = some (.lst mv) ∧ DTs H mv ms ∧ ms.length ≤ 8 ∧ ms.all isMaker = true := by
  induction h with
  | nil => cases m
  | @cons n ml mv ms kvs rows a b l c _ ih =>
    by_cases e : n = z
    · subst e
      exact ⟨ms, ml, mv, List.mem_cons_self .., valV_pos rfl, a, b, l, c⟩
    · have m2 : z ∈ nmsOf rows := (List.mem_cons.mp m).resolve_left fun q => e q.symm
      obtain ⟨ms', ml', mv', h1, h2, h3⟩ := ih m2
      exact ⟨ms', ml', mv', List.mem_cons_of_mem _ h1, (valV_neg fun q => e (Sum.inr.inj q)).trans h2, h3⟩
/-- a declaration, laid out -/
theorem decl_dt {H : Hp} {x : V} {d : PyData} (f : declForm d = true) (h : DT H x d) :
    (∃ p n ml mv ms, d = .tuple [.str "choice", .str n, .list ms] ∧ x = .ref p ∧ H p = some (.tup [.str "choice", .str n, .ref ml]) ∧ H ml = some (.lst mv) ∧ DTs H mv ms ∧ ms.length ≤ 8 ∧ ms.all isMaker = true) ∨
    (∃ p n kl a ks, d = .tuple [.str "calls", .str n, .list ks, .str a] ∧ x = .ref p ∧ H p = some (.tup [.str "calls", .str n, kl, .str a])) := by
  rcases declForm_cases f with ⟨n, ms, rfl, l1, l8, al⟩ | ⟨n, ws, a, rfl, l4, al⟩
  · cases h with
    | @tup p xs _ e r =>
      obtain ⟨x, y, z, a, b, c, rfl, he, ha, hb, hc⟩ := r.three (by rw [r.length]; rfl)
      cases he
      cases ha
      cases hb
      cases hc with
      | @lst pm xs2 _ em rm => exact .inl ⟨p, n, pm, xs2, ms, rfl, rfl, e, em, rm, l8, al⟩
  · cases h with
    | @tup p xs _ e r =>
      obtain ⟨x, y, z, u, a', b, c, d, rfl, he, ha, hb, hc, hu⟩ := r.four (by rw [r.length]; rfl)
      cases he
      cases ha
      cases hb
      cases hu
      exact .inr ⟨p, n, z, a, ws, rfl, rfl, e⟩
theorem rowsOf_snoc (ds : List PyData) (d : PyData) : rowsOf (ds ++ [d]) = rowsOf ds ++ if isCh d = true then [(declName d, makersOf d)] else [] := by
  unfold rowsOf
  rw [List.filter_append, List.map_append]
  cases h : isCh d <;> simp [h]
theorem isCh_choice {n : Str} {ms : List PyData} : isCh (.tuple [.str "choice", .str n, .list ms]) = true := by simp [isCh, isStr]
theorem isCh_calls {n a : Str} {ks : List PyData} : isCh (.tuple [.str "calls", .str n, .list ks, .str a]) = false := by
  show decide (("calls" : Str) = "choice") = false
  decide +kernel
theorem names_sub (ds : List PyData) : (nmsOf (rowsOf ds)).Sublist (ds.map declName) := by
  unfold nmsOf rowsOf
  rw [List.map_map]
  exact (List.filter_sublist (l := ds) (p := isCh)).map declName
theorem rowsOf_len (ds : List PyData) : (rowsOf ds).length ≤ ds.length := by
  unfold rowsOf
  rw [List.length_map]
  exact List.length_filter_le _ _
theorem Fine.nodup {ds : List PyData} (F : Fine ds) : (ds.map declName).Nodup := by
  have n := F.names
  unfold nms at n
  rw [List.nodup_cons, List.nodup_cons] at n
  exact n.2.2
theorem Fine.rnodup {ds : List PyData} (F : Fine ds) : (nmsOf (rowsOf ds)).Nodup := (names_sub ds).nodup F.nodup
theorem uniq_of {rows : List Row} (h : (nmsOf rows).Nodup) : ∀ n ms ms', (n, ms) ∈ rows → (n, ms') ∈ rows → ms = ms' := by
  induction rows with
  | nil => intro n ms ms' a; cases a
  | cons r rows ih =>
    intro n ms ms' a b
    obtain ⟨h1, h2⟩ := List.nodup_cons.mp (show (r.1 :: nmsOf rows).Nodup from h)
    rcases List.mem_cons.mp a with a1 | a1
    · rcases List.mem_cons.mp b with b1 | b1
      · exact (Prod.mk.inj (a1.trans b1.symm)).2
      · exact absurd (show r.1 ∈ nmsOf rows from List.mem_map.mpr ⟨(n, ms'), b1, by rw [← a1]⟩) h1
    · rcases List.mem_cons.mp b with b1 | b1
      · exact absurd (show r.1 ∈ nmsOf rows from List.mem_map.mpr ⟨(n, ms), a1, by rw [← b1]⟩) h1
      · exact ih h2 n ms ms' a1 b1
section
variable {P : Program} {w : World} {K : PySem.W.Frag} {mg : Str → Option Value} {base : Heap} {CL CK CB : Addr}
def sp_choice_makers : Sp := fun vs H Q _ => ∃ (p : Addr) (xs : List V) (ds : List PyData), vs = [.ref p] ∧ H p = some (.lst xs) ∧ DTs H xs ds ∧ Fine ds ∧
  ∀ D kvs H', Same H H' → H D = none → H' D = some (.dK kvs) → MkRel H' kvs (rowsOf ds) → Q (.ref D) H'
theorem c_choice_makers (T : TMk P K w mg CL CK CB) : Says P w K mg base 1 "choice_makers" ["kinds"] sp_choice_makers := by
  refine says T.d_choice_makers sc_choice_makers (fun vs H Q E h => ?_) (fun f cdv A outer s H vs Q E hr h => ?_)
  · obtain ⟨_, _, _, rfl, _⟩ := h; rfl
  refine ⟨_, (pss_one (ps_ret (pe_dc (own := [("row", 1)]) (g := gName 1) rfl sc_choice_makers.nd (pi_list (pv 0)) (blkOk_by (N := ["kinds", "row"]) (sc := defScope s_choice_makers) (own := [("row", 1)]) (by decide +kernel)) (fun _ _ _ _ _ => pg_name (i := 1) sc_choice_makers.nd rfl (Or.inl rfl))
    (fun _ _ _ _ _ => pts_one (pt_cmpR op_eq (pe_ix (r := rIxT K) ix_tup (pv 1) pe_int (fun _ _ => rfl)) pe_str (nomark _))) (fun _ _ _ _ _ => pe_ix (r := rIxT K) ix_tup (pv 1) pe_int (fun _ _ => rfl)) (fun _ _ _ _ _ => pe_ix (r := rIxT K) ix_tup (pv 1) pe_int (fun _ _ => rfl))))), ?_⟩
  obtain ⟨p, xs, ds, rfl, hp, hds, F, q⟩ := h
  have lx := hds.length
  have l12 := F.len
  refine ⟨_, rfl, p, rfl, ⟨_, SqL.of hp⟩, fun D hD => ?_⟩
  refine dc_it (walk_list (K := K) (a := p) (xs := xs)) (fun i H' => Same H H' ∧ ∃ kvs, H' D = some (.dK kvs) ∧ MkRel H kvs (rowsOf (ds.take i))) ⟨same_new hD, [], upd_same, .nil⟩ (fun i H' _ z => SqL.of (z.1 _ _ hp)) ?_ ?_
  · rintro i x H1 H2 hi ⟨s1, kvs, hk, rel⟩ ⟨rfl, hx⟩
    have hdi : ds[i]? = some (ds[i]'(by omega)) := List.getElem?_eq_getElem (by omega)
    have hdt := hds.get hx hdi
    have df := F.form _ (List.getElem_mem (h := by omega) : ds[i]'(by omega) ∈ ds)
    have et : ds.take (i + 1) = ds.take i ++ [ds[i]'(by omega)] := by rw [List.take_add_one, hdi]; rfl
    have er := rowsOf_snoc (ds.take i) (ds[i]'(by omega))
    rw [← et] at er
    have nd := (F.nodup)
    rcases decl_dt df hdt with ⟨pt, n, ml, mv, ms, ed, rfl, hpt, hml, hmv, l8, al⟩ | ⟨pt, n, kl, a, ks, ed, rfl, hpt⟩
    · refine ⟨rfl, ?_⟩
      refine ⟨_, rfl, pt, _, 0, _, rfl, rfl, SqT.of (s1 _ _ hpt), rfl, rfl, _, rfl, ifY rfl ?_⟩
      refine ⟨_, rfl, pt, _, 1, _, rfl, rfl, SqT.of (s1 _ _ hpt), rfl, ?_⟩
      refine ⟨_, rfl, pt, _, 2, _, rfl, rfl, SqT.of (s1 _ _ hpt), rfl, ?_⟩
      have new : valV kvs (Sum.inr n) = none := by
        have := rel.has n
        have nin : n ∉ nmsOf (rowsOf (ds.take i)) := by
          intro m
          have m2 := (names_sub (ds.take i)).subset m
          have e2 : (ds.map declName) = (ds.take i).map declName ++ (ds.drop i).map declName := by rw [← List.map_append, List.take_append_drop]
          rw [e2, List.nodup_append] at nd
          refine nd.2.2 n m2 n ?_ rfl
          have : ds[i]'(by omega) ∈ ds.drop i := by
            rw [List.drop_eq_getElem_cons (by omega)]
            exact List.mem_cons_self ..
          have z : declName (ds[i]'(by omega)) ∈ (ds.drop i).map declName := List.mem_map.mpr ⟨_, this, rfl⟩
          rw [ed] at z
          exact z
        rw [decide_eq_false nin] at this
        unfold kHas at this
        cases e : valV kvs (Sum.inr n) with
        | none => rfl
        | some v => rw [e] at this; cases this
      refine ⟨kvs, Sum.inr n, rfl, hk, ?_, ?_, ?_⟩
      · rw [rel.length]
        exact small1000 (by have := rowsOf_len (ds.take i); rw [List.length_take] at this; omega)
      · intro b o e
        rw [upd_ne (ne_of_none e hD)]
        exact s1 _ _ e
      · refine ⟨_, upd_same, ?_⟩
        rw [putK_new _ new, er, ed, if_pos isCh_choice]
        exact rel.snoc hml hmv l8 al
    · refine ⟨rfl, ?_⟩
      refine ⟨_, rfl, pt, _, 0, _, rfl, rfl, SqT.of (s1 _ _ hpt), rfl, rfl, _, rfl, ifN (by decide +kernel) ?_⟩
      refine ⟨s1, kvs, hk, ?_⟩
      rw [er, ed, if_neg (by rw [isCh_calls]; decide), List.append_nil]
      exact rel
  · rintro H' ⟨s1, kvs, hk, rel⟩
    rw [show xs.length = ds.length from lx, List.take_length] at rel
    exact q D kvs H' s1 hD hk (rel.same s1)
/-- kinds and a name of one, asked -/
def Asked (CL CK : Addr) (vs : List V) (H : Hp) (E : XK) (ok : List PyData → Str → Prop) : Prop :=
  ∃ (vk vn : V) (dk dn : PyData), vs = [vk, vn] ∧ DT H vk dk ∧ DT H vn dn ∧ (OKd dk ∨ dk = .dict []) ∧
    ((isKinds dk = false ∧ ∀ H', Same H H' → raised E CL vk H') ∨
      ∃ ds, dk = .list ds ∧ Fine ds ∧ (((∀ z, dn = .str z → z ∉ nmsOf (rowsOf ds)) ∧ ∀ H', Same H H' → raised E CK vn H') ∨ ∃ z, dn = .str z ∧ z ∈ nmsOf (rowsOf ds) ∧ ok ds z))
theorem Asked.mono {vs : List V} {H : Hp} {E E' : XK} {ok ok' : List PyData → Str → Prop} (a : Asked CL CK vs H E ok) (e : ∀ C v H', raised E C v H' → raised E' C v H') (h : ∀ vk ds z, vs = [vk, .str z] → DT H vk (.list ds) → Fine ds → z ∈ nmsOf (rowsOf ds) → ok ds z → ok' ds z) : Asked CL CK vs H E' ok' := by
  obtain ⟨vk, vn, dk, dn, rfl, hk, hn, o, c⟩ := a
  refine ⟨vk, vn, dk, dn, rfl, hk, hn, o, ?_⟩
  rcases c with ⟨c, r⟩ | ⟨ds, rfl, F, c⟩
  · exact .inl ⟨c, fun H' s => e _ _ _ (r H' s)⟩
  · refine .inr ⟨ds, rfl, F, ?_⟩
    rcases c with ⟨c, r⟩ | ⟨z, rfl, hz, c⟩
    · exact .inl ⟨c, fun H' s => e _ _ _ (r H' s)⟩
    · cases hn
      exact .inr ⟨z, rfl, hz, h vk ds z rfl hk F hz c⟩
def sp_asked (CL CK : Addr) : Sp := fun vs H Q E => Asked CL CK vs H E fun ds _ => ∀ D kvs H', Same H H' → H D = none → H' D = some (.dK kvs) → MkRel H' kvs (rowsOf ds) → Q (.ref D) H'
theorem len_asked {vs : List V} {H : Hp} {E : XK} {ok : List PyData → Str → Prop} (a : Asked CL CK vs H E ok) : vs.length = 2 := by
  obtain ⟨_, _, _, _, rfl, _⟩ := a; rfl
theorem c_asked (T : TMk P K w mg CL CK CB) : SaysX P w K mg base 9 "asked_makers" ["kinds", "name"] (sp_asked CL CK) := by
  refine saysX T.d_asked_makers sc_asked_makers (fun vs H Q E h => len_asked h) (fun f cdv A outer s H vs Q E hr h => ?_)
  refine ⟨_, (pss_cons (ps_if (pt_not (pt_val (pe_s (c_is_kinds T.tk) hr (pa_cons (pv 0) pa_nil))))
        (pss_one (ps_raise rfl (takes_of rfl rfl rfl rfl) (pmk_bill T.te.bL (k := 7) hr rfl (pv 0))))
        pss_nil)
    (pss_cons (ps_set (i := 2) sc_asked_makers.nd rfl (.inl rfl) (pe_s (c_choice_makers T) hr (pa_cons (pv 0) pa_nil)))
    (pss_cons (ps_if (PW.pt (pw_or (pt_not (pt_val (pe_callB call_isi (by rfl) T.tk.tw.b_isinstance (by decide +kernel) (pa_cons (pv 1) (pa_cons (pe_bltn (v := .ty "str") (by rfl) T.tk.tw.b_str (by decide +kernel) rfl) pa_nil))))) (pw_or1 (pt_cmp (pc_dnotin (hu_of hr) (pv 1) (pv 2))))))
        (pss_one (ps_raise rfl (takes_of rfl rfl rfl rfl) (pmk_bill T.te.bK (k := 7) hr rfl (pv 1))))
        pss_nil)
    (pss_one (ps_ret (pv 2)))))), ?_⟩
  obtain ⟨vk, vn, dk, dn, rfl, hk, hn, ok, c⟩ := h
  refine ⟨_, rfl, vk, dk, rfl, hk, ok, fun H1 s1 => ⟨_, rfl, ?_⟩⟩
  rcases c with ⟨e, r⟩ | ⟨ds, rfl, F, c⟩
  · rw [e]
    exact iteT ⟨_, rfl, _, rfl, fun dd hd => r H1 s1 dd hd⟩
  · rw [isKinds_iff.mpr F]
    refine iteF ?_
    cases hk with
    | @lst p xs _ hp hds =>
      refine ⟨_, rfl, p, xs, ds, rfl, s1 _ _ hp, hds.same s1 _, F, fun D kvs H2 s2 hD hd rel => ?_⟩
      have s12 := s1.trans s2
      refine ⟨_, rfl, _, _, _, _, _, rfl, .ty _, (hn.same s12 _).ty, kit_ty (kit_s dn), _, rfl, ?_⟩
      rcases c with ⟨nz, r⟩ | ⟨z, rfl, hz, q⟩
      · have fin : ∃ v, [vn] = [v] ∧ ∀ dd, H2 dd = none → E (.ref CK) (some dd) (upd H2 dd (.xd [("value", v)])) := ⟨_, rfl, fun dd hd => r H2 s12 dd hd⟩
        cases dn with
        | str z =>
          cases hn
          refine iteF ?_
          refine ⟨_, rfl, _, rfl, D, _, rfl, DGet.k (k := Sum.inr z) hd, _, rfl, ?_⟩
          have := rel.has z
          rw [decide_eq_false (nz z rfl)] at this
          unfold kHas at this
          have this2 : valV kvs (Sum.inr z) = none := by
            cases ev : valV kvs (Sum.inr z) with
            | none => rfl
            | some v => rw [ev] at this; cases this
          rw [this2]
          exact iteT ⟨_, rfl, fin⟩
        | none => exact iteT ⟨_, rfl, fin⟩
        | bool _ => exact iteT ⟨_, rfl, fin⟩
        | int _ => exact iteT ⟨_, rfl, fin⟩
        | list _ => exact iteT ⟨_, rfl, fin⟩
        | tuple _ => exact iteT ⟨_, rfl, fin⟩
        | dict _ => exact iteT ⟨_, rfl, fin⟩
      · cases hn
        refine iteF ?_
        refine ⟨_, rfl, _, rfl, D, _, rfl, DGet.k (k := Sum.inr z) hd, _, rfl, ?_⟩
        have := rel.has z
        rw [decide_eq_true hz] at this
        unfold kHas at this
        obtain ⟨v, ev⟩ := Option.isSome_iff_exists.mp this
        rw [ev]
        refine iteF ?_
        exact ⟨_, rfl, q D kvs H2 s12 (s1.free hD) hd rel⟩
end
end Cb
set_option Elab.async false
set_option linter.all false
set_option maxRecDepth 100000
set_option maxHeartbeats 4000000
namespace Cb
open PySem PySem.Spec PyProof.Rows L2 ExS
theorem nin1 {a b : Addr} (h : a ≠ b) : a ∉ [b] := by simp [h]
theorem nin2 {a b c : Addr} (h : a ≠ b) (h2 : a ≠ c) : a ∉ [b, c] := by simp [h, h2]
/-! ### what is new -/
def onlyNew (H H' : Hp) : Hp := fun b => if (H b).isSome = true then none else H' b
theorem onlyNew_at {H H' : Hp} {b : Addr} {o : HO} (n : H b = none) (e : H' b = some o) : onlyNew H H' b = some o := by
  unfold onlyNew
  rw [n, if_neg (by decide)]
  exact e
theorem onlyNew_out {H H' : Hp} {b : Addr} {o : HO} (e : onlyNew H H' b = some o) : H b = none ∧ H' b = some o := by
  unfold onlyNew at e
  split at e
  · cases e
  · rename_i h
    refine ⟨?_, e⟩
    cases z : H b with
    | none => rfl
    | some o => rw [z] at h; exact absurd rfl h
theorem onlyNew_same {H H' H'' : Hp} (s : Same H' H'') : Same (onlyNew H H') (onlyNew H H'') := fun b o e => onlyNew_at (onlyNew_out e).1 (s _ _ (onlyNew_out e).2)
theorem onlyNew_to {H H' : Hp} : Same (onlyNew H H') H' := fun b o e => (onlyNew_out e).2
theorem strs_any {H H' : Hp} {kv : List V} {ks : List PyData} (h : DTs H kv ks) (a : ks.all isS = true) : DTs H' kv ks := by
  induction ks generalizing kv with
  | nil => cases h; exact .nil
  | cons k ks ih =>
    cases h with
    | cons x r =>
      obtain ⟨a1, a2⟩ := Bool.and_eq_true_iff.mp (show (isS k && ks.all isS) = true from a)
      obtain ⟨z, rfl⟩ := isS_str a1
      cases x
      exact .cons (.str z) (ih r a2)
/-- a maker, laid out -/
theorem maker_dt {H : Hp} {x : V} {d : PyData} (f : isMaker d = true) (h : DT H x d) : ∃ pt z pk kv ks, d = .tuple [.str z, .list ks] ∧ x = .ref pt ∧ H pt = some (.tup [.str z, .ref pk]) ∧ H pk = some (.lst kv) ∧ DTs H kv ks ∧ kv = (ks.map strOf).map V.str ∧ ks.length ≤ 4 ∧ ks.all isS = true := by
  obtain ⟨z, ks, rfl, k4, ka⟩ := isMaker_tup f
  cases h with
  | @tup pt xt _ et rt =>
    cases rt with
    | cons hz rt =>
      cases rt with
      | cons hk rt =>
        cases rt with
        | nil =>
          cases hz
          cases hk with
          | @lst pk xk _ ek rk => exact ⟨pt, z, pk, xk, ks, rfl, rfl, et, ek, rk, strs_of rk ka, k4, ka⟩
section
variable {P : Program} {w : World} {K : PySem.W.Frag} {mg : Str → Option Value} {base : Heap} {CL CK CB : Addr}
def rListOf (K : PySem.W.Frag) : List V → Hp → VK → Prop := fun xs H Q => ∃ p ys, xs = [.ref p] ∧ (SqL K H p ys ∨ SqT K H p ys) ∧ ∀ l, H l = none → Q (.ref l) (upd H l (.lst ys))
theorem call_list_ofK {X : Cx} : CallR X (.type "list") (rListOf X.K) := call_list_of
def okCons (H : Hp) (Q : VK) (ds : List PyData) (z : Str) : Prop := ∀ ms, (z, ms) ∈ rowsOf ds → ∀ p acc H', Same H H' → H p = none → H' p = some (.lst acc) → DTs (hid [p] (onlyNew H H')) acc ms → Q (.ref p) H'
def sp_constructors (CL CK : Addr) : Sp := fun vs H Q E => Asked CL CK vs H E (okCons H Q)
theorem c_constructors (T : TMk P K w mg CL CK CB) : SaysX2 P w K mg base 10 "constructors" ["kinds", "name"] ["name", "kinds"] List.reverse (sp_constructors CL CK) := by
  refine saysX2 T.d_constructors sc_constructors (fun vs H Q E h => len_asked h) (fun f cdv A outer s H vs Q E hr h => ?_)
  refine ⟨_, (pss_cons (ps_set (i := 2) sc_constructors.nd rfl (.inl rfl) (pe_sx (c_asked T) hr (takes_of rfl rfl rfl rfl) (pa_cons (pv 0) (pa_cons (pv 1) pa_nil))))
    (pss_one (ps_ret (pe_lc (own := [("maker", 3), ("parts", 4)]) (g := gTup K 2 (gCons (gName 3) (gCons (gName 4) gNil))) (tt := tYes) rfl sc_constructors.nd (pi_list (pe_dget (hu_of hr) (pv 2) (pv 1) (fun _ _ => rfl))) (blkOk_by (N := ["kinds", "name", "makers", "maker", "parts"]) (sc := defScope s_constructors) (own := [("maker", 3), ("parts", 4)]) (by decide +kernel)) (fun _ _ _ _ _ => pg_tup rfl (pgs_cons (pg_name (i := 3) sc_constructors.nd rfl (.inl rfl)) (pgs_cons (pg_name (i := 4) sc_constructors.nd rfl (.inl rfl)) pgs_nil))) (fun _ _ _ _ _ => pts_nil) (fun _ _ _ _ _ => (pe_tup (pa_cons (pv 3) (pa_cons (pe_callTy (r := rListOf K) call_list_ofK (by rfl) T.tk.tw.b_list (by decide +kernel) (pa_cons (pv 4) pa_nil)) pa_nil)))))))), ?_⟩
  have h0 := h
  obtain ⟨vk, vn, dk, dn, rfl, hk, hn, _, _⟩ := h0
  refine ⟨_, rfl, _, rfl, Asked.mono h (fun C v H' r dd hd => r dd hd) fun vk' ds z ev dk' F hz q D kvs H1 s1 hD hd rel => ?_⟩
  obtain ⟨rfl, rfl⟩ : vk = vk' ∧ vn = .str z := by simpa using ev
  obtain ⟨ms, ml, mv, hm, hv, hml, dms, l8, al⟩ := rel.look hz
  have lm := dms.length
  refine ⟨_, rfl, _, rfl, D, _, rfl, by have := DGet.k (k := Sum.inr z) hd; rw [hv] at this; exact this, ml, rfl, ⟨_, SqL.of hml⟩, fun C hC => ?_⟩
  have nCH : H C = none := s1.free hC
  refine lc_it (walk_list (K := K) (a := ml) (xs := mv)) (fun i H' => Same H1 H' ∧ ∃ acc, H' C = some (.lst acc) ∧ DTs (hid [C] (onlyNew H H')) acc (ms.take i)) ⟨same_new hC, [], upd_same, .nil⟩ (fun i H' _ y => SqL.of (y.1 _ _ hml)) ?_ ?_
  · rintro i x H2 H3 hi ⟨s2, acc, ha, da⟩ ⟨rfl, hx⟩
    have hmi : ms[i]? = some (ms[i]'(by omega)) := List.getElem?_eq_getElem (by omega)
    have im : isMaker (ms[i]'(by omega)) = true := List.all_eq_true.mp al _ (List.getElem_mem _)
    obtain ⟨pt, y, pk, kv, ks, ed, rfl, hpt, hpk, hkv, _, l4, ka⟩ := maker_dt im (dms.get hx hmi)
    refine ⟨pt, _, rfl, SqT.of (s2 _ _ hpt), rfl, _, _, rfl, _, _, rfl, rfl, ?_⟩
    refine ⟨rfl, ?_⟩
    refine ⟨_, rfl, _, rfl, pk, _, rfl, .inl (SqL.of (s2 _ _ hpk)), fun l hl => ⟨(show 2 ≤ sizeLine by decide), fun t ht => ?_⟩⟩
    have u1 : Same H3 (upd H3 l (.lst kv)) := same_new hl
    have u2 : Same H3 (upd (upd H3 l (.lst kv)) t (.tup [.str y, .ref l])) := u1.trans (same_new ht)
    have nlC : l ≠ C := (ne_of_none ha hl).symm
    have ntC : t ≠ C := (ne_of_none (u1 _ _ ha) ht).symm
    have nlt : l ≠ t := ne_of_none upd_same ht
    have hlH : H l = none := s1.free (s2.free hl)
    have htH : H t = none := s1.free (s2.free (u1.free ht))
    have et : ms.take (i + 1) = ms.take i ++ [ms[i]'(by omega)] := by rw [List.take_add_one, hmi]; rfl
    refine ⟨acc, u2 _ _ ha, ?_, ?_, _, upd_same, ?_⟩
    · have := da.length
      rw [List.length_take] at this
      exact small1000 (by omega)
    · intro b o e
      rw [upd_ne (ne_of_none e hC)]
      exact u2 _ _ (s2 _ _ e)
    · rw [et, ed]
      have sk : Same (hid [C] (onlyNew H H3)) (hid [C] (onlyNew H (upd (upd (upd H3 l (.lst kv)) t (.tup [.str y, .ref l])) C (.lst (acc ++ [.ref t]))))) := fun b o e => by
        obtain ⟨n, e2⟩ := hid_out e
        obtain ⟨n2, e3⟩ := onlyNew_out e2
        refine hid_at n (onlyNew_at n2 ?_)
        rw [upd_ne (by simpa using n)]
        exact u2 _ _ e3
      refine DTs.snoc (da.same sk _) (.tup (hid_at (nin1 ntC) (onlyNew_at htH ((upd_ne ntC).trans upd_same))) (.cons (.str _) (.cons (.lst (hid_at (nin1 nlC) (onlyNew_at hlH ((upd_ne nlC).trans ((upd_ne nlt).trans upd_same)))) (strs_any hkv ka)) .nil)))
  · rintro H3 ⟨s2, acc, ha, da⟩
    rw [show mv.length = ms.length from lm, List.take_length] at da
    exact q ms hm C acc H3 (s1.trans s2) nCH ha da
end
end Cb
set_option Elab.async false
set_option linter.all false
set_option maxRecDepth 100000
set_option maxHeartbeats 4000000
namespace Cb
open PySem PySem.Spec PyProof.Rows L2 ExS
/-- the number that falls -/
def muCome (ns : List Str) (F W : Addr) (H : Hp) : Nat := (match H F with
  | some (.dK fs) => 2 * cnt ns fs
  | _ => 0) + match H W with
  | some (.lst ws) => ws.length
  | _ => 0
theorem muCome_eq {ns : List Str} {F W : Addr} {H : Hp} {fs : Kv} {ws : List V} (hF : H F = some (.dK fs)) (hW : H W = some (.lst ws)) : muCome ns F W H = 2 * cnt ns fs + ws.length := by
  unfold muCome
  rw [hF, hW]
theorem partsIn_take {ms : List PyData} {i : Nat} {m : PyData} (h : ms[i]? = some m) : partsIn (ms.take (i + 1)) = partsIn (ms.take i) ++ partsOf m := by
  unfold partsIn
  rw [List.take_add_one, h, List.map_append, List.flatten_append]
  simp
/-- what stands at a turn -/
structure At (H : Hp) (F W : Addr) (st : Kw) (H' : Hp) : Prop where
  same : Same H H'
  f : H' F = some (.dK st.1)
  w : H' W = some (.lst (st.2.map V.str))
section
variable {P : Program} {w : World} {K : PySem.W.Frag} {mg : Str → Option Value} {base : Heap} {CL CK CB : Addr}
def sp_come_to : Sp := fun vs H Q _ => ∃ (D : Addr) (a : Str) (kvs : Kv) (rows : List Row), vs = [.ref D, .str a] ∧ H D = some (.dK kvs) ∧ MkRel H kvs rows ∧ a ∈ nmsOf rows ∧ (nmsOf rows).Nodup ∧ rows.length ≤ 12 ∧
  ∀ F fs H', Same H H' → H F = none → H' F = some (.dK fs) → (∀ z, kHas fs z = true ↔ Rch rows a z) → Q (.ref F) H'
theorem c_come_to (T : TMk P K w mg CL CK CB) : Says P w K mg base 1 "come_to" ["makers", "name"] sp_come_to := by
  refine says T.d_come_to sc_come_to (fun vs H Q E h => ?_) (fun f cdv A outer s H vs Q E hr h => ?_)
  · obtain ⟨_, _, _, _, rfl, _⟩ := h; rfl
  refine ⟨_, (pss_cons (ps_par (i := 2) (j := 3) rfl sc_come_to.nd rfl rfl (by decide) rfl rfl (pa_cons (pe_disp (pps_cons (pv 1) pe_bl pps_nil) rfl rfl (by decide) (by decide)) (pa_cons (pe_lst (pa_cons (pv 1) pa_nil)) pa_nil)) rfl)
    (pss_cons (ps_while PassesOwn.never (pt_truth (pv 3) (by intro _; rfl))
        (pss_cons (ps_set (i := 4) sc_come_to.nd rfl (.inl rfl) (pe_bm0 PySem.F.plainAttrs_list PySem.F.slot_list_pop PySem.F.type_list_pop mt_pop (pv 3)))
        (pss_one (ps_for PassesOwn.never rfl (pi_list (pe_dget (hu_of hr) (pv 0) (pv 4) (fun _ _ => rfl))) (pg_tup rfl (pgs_cons (pg_name (i := 5) sc_come_to.nd rfl (.inl rfl)) (pgs_cons (pg_name (i := 6) sc_come_to.nd rfl (.inl rfl)) pgs_nil)))
            (pss_one (ps_for PassesOwn.never rfl (pi_list (pv 6)) (pg_name (i := 7) sc_come_to.nd rfl (.inl rfl))
                (pss_one (ps_if (PW.pt (pw_and (pt_cmp (pc_din (hu_of hr) (pv 7) (pv 0))) (pw_and1 (pt_cmp (pc_dnotin (hu_of hr) (pv 7) (pv 2))))))
                    (pss_cons (ps_dput (hu_of hr) (pv 2) (pv 7) pe_bl rfl)
                    (pss_one (ps_expr (pe_bm PySem.F.plainAttrs_list PySem.F.slot_list_append PySem.F.type_list_append mt_append (pv 3) (pa_cons (pv 7) pa_nil)))))
                    pss_nil))))))))
    (pss_one (ps_ret (pv 2))))), ?_⟩
  obtain ⟨D, a, kvs, rows, rfl, hD, rel, ha, nd, l12, q⟩ := h
  have uq := uniq_of nd
  refine fun F nF => ⟨_, rfl, upd_same, [(Sum.inr a, V.bl true)], rfl, (show 1 ≤ 15 by decide), ?_⟩
  rw [upd_upd]
  refine ⟨_, rfl, (show 1 ≤ sizeLine by decide), fun W nW => ⟨_, _, rfl, ?_⟩⟩
  have nFW : F ≠ W := ne_of_none upd_same nW
  have nW0 : H W = none := by rwa [upd_ne nFW.symm] at nW
  have s0 : Same H (upd (upd H F (.dK (mergeK [] [(Sum.inr a, V.bl true)]))) W (.lst [.str a])) := (same_new nF).trans (same_new nW)
  have A0 : At H F W ([(Sum.inr a, V.bl true)], [a]) (upd (upd H F (.dK (mergeK [] [(Sum.inr a, V.bl true)]))) W (.lst [.str a])) := by
    refine ⟨s0, ?_, ?_⟩
    · rw [upd_ne nFW, upd_same]
      rfl
    · rw [upd_same]
      rfl
  generalize upd (upd H F (.dK (mergeK [] [(Sum.inr a, V.bl true)]))) W (.lst [.str a]) = H0 at A0 s0
  have c12 : ∀ fs : Kv, cnt (nmsOf rows) fs ≤ 12 := fun fs => by
    have := List.length_filter_le (fun z => !kHas fs z) (nmsOf rows)
    have l : (nmsOf rows).length = rows.length := List.length_map ..
    unfold cnt
    omega
  dsimp only [tSeq]
  refine while_by (fun σ H' => ∃ (st : Kw) (x4 x5 x6 x7 : Option V), σ = [some (.ref D), some (.str a), some (.ref F), some (.ref W), x4, x5, x6, x7] ∧ At H F W st H' ∧ Wh rows a st ∧ 2 * cnt (nmsOf rows) st.1 + st.2.length ≤ 30 ∧ st.1.length + cnt (nmsOf rows) st.1 ≤ 30)
    (fun σ H' => muCome (nmsOf rows) F W H') ⟨_, none, none, none, none, rfl, A0, Wh.start, ?_, ?_⟩ ?_ ?_
  · have := c12 [(Sum.inr a, V.bl true)]
    show 2 * cnt (nmsOf rows) [(Sum.inr a, V.bl true)] + 1 ≤ 30
    omega
  · have := c12 [(Sum.inr a, V.bl true)]
    show 1 + cnt (nmsOf rows) [(Sum.inr a, V.bl true)] ≤ 30
    omega
  · rintro σ H1 ⟨⟨fs, ws⟩, x4, x5, x6, x7, rfl, A1, W1, m1, m2⟩
    refine ⟨_, rfl, !(ws.map V.str).isEmpty, .inl ⟨_, SqL.of A1.w, rfl⟩, ?_⟩
    have cases_ : ws = [] ∨ ∃ l b, ws = l ++ [b] := by
      rcases List.eq_nil_or_concat ws with h | ⟨l, b, h⟩
      · exact .inl h
      · exact .inr ⟨l, b, by rw [h, List.concat_eq_append]⟩
    rcases cases_ with rfl | ⟨ws, k, rfl⟩
    · refine iteF ?_
      refine ⟨_, rfl, ?_⟩
      exact q F fs H1 A1.same nF A1.f fun z => W1.fin z
    · rw [show (!((ws ++ [k]).map V.str).isEmpty) = true by simp]
      refine iteT ?_
      have kf : kHas fs k = true := W1.sub k (by simp)
      have kn : k ∈ nmsOf rows := (W1.sound k kf).in_ ha
      obtain ⟨ms, ml, mv, hm, hv, hml, dms, l8, al⟩ := rel.look kn
      have lm := dms.length
      have hl : ((ws ++ [k]).map V.str)[((ws ++ [k]).map V.str).length - 1]? = some (.str k) := by simp
      have hdl : ((ws ++ [k]).map V.str).dropLast = ws.map V.str := by rw [List.map_append]; simp
      have m0 := muCome_eq (ns := nmsOf rows) A1.f A1.w
      refine ⟨_, rfl, .inl ⟨rfl, _, SqL.of A1.w⟩, W, _, _, rfl, rfl, A1.w, hl, ?_⟩
      rw [hdl]
      have A2 : At H F W (fs, ws) (upd H1 W (.lst (ws.map V.str))) := ⟨fun b o e => by rw [upd_ne (ne_of_none e nW0)]; exact A1.same _ _ e, by rw [upd_ne nFW]; exact A1.f, upd_same⟩
      generalize upd H1 W (.lst (ws.map V.str)) = H2 at A2
      have G := goPs_go (nmsOf rows) (partsIn ms) (fs, ws)
      refine ⟨_, rfl, _, rfl, D, _, rfl, by have := DGet.k (k := Sum.inr k) (A2.same _ _ hD); rw [hv] at this; exact this, ml, rfl, ⟨_, SqL.of (A2.same _ _ hml)⟩, for_list (xs := mv) (fun i σ H' => (∃ x5 x6 x7 : Option V, σ = [some (.ref D), some (.str a), some (.ref F), some (.ref W), some (.str k), x5, x6, x7]) ∧ At H F W (goPs (nmsOf rows) (fs, ws) (partsIn (ms.take i))) H')
        ⟨⟨_, _, _, rfl⟩, A2⟩ (fun i σ H' _ z => SqL.of (z.2.same _ _ hml)) ?_ ?_⟩
      · rintro i x σ H3 hx ⟨⟨x5, x6, x7, rfl⟩, A3⟩
        have hi := (List.getElem?_eq_some_iff.mp hx).1
        have hmi : ms[i]? = some (ms[i]'(by omega)) := List.getElem?_eq_getElem (by omega)
        have im : isMaker (ms[i]'(by omega)) = true := List.all_eq_true.mp al _ (List.getElem_mem _)
        obtain ⟨pt, y, pk, kv, ks, ed, rfl, hpt, hpk, hkv, ekv, l4, ka⟩ := maker_dt im (dms.get hx hmi)
        have G1 := goPs_go (nmsOf rows) (partsIn (ms.take i)) (fs, ws)
        refine ⟨pt, _, rfl, SqT.of (A3.same _ _ hpt), rfl, _, _, rfl, _, _, rfl, rfl, ?_⟩
        rw [partsIn_take hmi, goPs_app, show partsOf (ms[i]'(by omega)) = ks.map strOf by rw [ed]; rfl]
        generalize goPs (nmsOf rows) (fs, ws) (partsIn (ms.take i)) = st at A3 G1 ⊢
        refine ⟨_, rfl, pk, rfl, ⟨_, SqL.of (A3.same _ _ hpk)⟩, for_list (xs := kv) (fun j σ H' => (∃ x7 : Option V, σ = [some (.ref D), some (.str a), some (.ref F), some (.ref W), some (.str k), some (.str y), some (.ref pk), x7]) ∧ At H F W (goPs (nmsOf rows) st ((ks.map strOf).take j)) H')
          ⟨⟨_, rfl⟩, A3⟩ (fun j σ H' _ z => SqL.of (z.2.same _ _ hpk)) ?_ ?_⟩
        · rintro j x σ H4 hx ⟨⟨x7, rfl⟩, A4⟩
          rw [ekv, List.getElem?_map] at hx
          obtain ⟨p, hp, rfl⟩ : ∃ p, (ks.map strOf)[j]? = some p ∧ V.str p = x := by
            cases e : (ks.map strOf)[j]? with
            | none => rw [e] at hx; cases hx
            | some p => rw [e] at hx; exact ⟨p, rfl, Option.some.inj hx⟩
          have et : (ks.map strOf).take (j + 1) = (ks.map strOf).take j ++ [p] := by rw [List.take_add_one, hp]; rfl
          have G2 := goPs_go (nmsOf rows) ((ks.map strOf).take j) st
          have b1 := G1.len
          have b2 := G2.len
          have b3 := G1.meas
          have b4 := G2.meas
          rw [et, goPs_app]
          generalize goPs (nmsOf rows) st ((ks.map strOf).take j) = st2 at A4 G2 b2 b4 ⊢
          refine ⟨_, rfl, _, rfl, D, _, rfl, DGet.k (k := Sum.inr p) (A4.same _ _ hD), _, rfl, ?_⟩
          have r1 := rel.has p
          unfold kHas at r1
          rw [r1]
          have skip : (decide (p ∈ nmsOf rows) && !kHas st2.1 p) = false → (∃ x7 : Option V, [some (V.ref D), some (.str a), some (.ref F), some (.ref W), some (.str k), some (.str y), some (.ref pk), some (.str p)] = [some (.ref D), some (.str a), some (.ref F), some (.ref W), some (.str k), some (.str y), some (.ref pk), x7]) ∧ At H F W (goPs (nmsOf rows) st2 [p]) H4 := fun e => by
            have e2 : goPs (nmsOf rows) st2 [p] = st2 := by
              show stepP (nmsOf rows) st2 p = st2
              unfold stepP
              rw [e, if_neg (by decide)]
            rw [e2]
            exact ⟨⟨_, rfl⟩, A4⟩
          by_cases hp1 : p ∈ nmsOf rows
          · rw [decide_eq_true hp1] at skip ⊢
            refine iteT ?_
            refine ⟨_, rfl, _, rfl, F, _, rfl, DGet.k (k := Sum.inr p) A4.f, _, rfl, ?_⟩
            cases ev : valV st2.1 (Sum.inr p) with
            | some v =>
              refine iteF ?_
              refine skip ?_
              unfold kHas
              rw [ev]
              rfl
            | none =>
              refine iteT ?_
              have e2 : goPs (nmsOf rows) st2 [p] = (addK st2.1 p, st2.2 ++ [p]) := by
                show stepP (nmsOf rows) st2 p = _
                unfold stepP
                refine if_pos ?_
                unfold kHas
                rw [decide_eq_true hp1, ev]
                rfl
              rw [e2]
              refine ⟨_, rfl, _, rfl, F, _, rfl, DPut.k (k := Sum.inr p) A4.f (small1000 (by simp only at b1 m2; omega)), ?_⟩
              have nF4 : ∀ {b o}, H b = some o → b ≠ F := fun e => ne_of_none e nF
              refine ⟨_, rfl, .inl ⟨rfl, _, SqL.of ((upd_ne nFW.symm).trans A4.w)⟩, _, rfl, W, _, _, rfl, rfl, (upd_ne nFW.symm).trans A4.w, small1000 (by rw [List.length_map]; simp only [List.length_append, List.length_cons, List.length_nil] at b3 m1; omega), ?_⟩
              refine ⟨⟨_, rfl⟩, ⟨fun b o e => ?_, ?_, ?_⟩⟩
              · rw [upd_ne (ne_of_none e nW0), upd_ne (ne_of_none e nF)]
                exact A4.same _ _ e
              · rw [upd_ne nFW, upd_same]
                rfl
              · rw [upd_same, List.map_append]
                rfl
          · rw [decide_eq_false hp1] at skip ⊢
            exact iteF (skip rfl)
        · rintro σ H4 ⟨⟨x7, rfl⟩, A4⟩
          rw [List.take_of_length_le (by rw [ekv]; simp)] at A4
          exact ⟨⟨_, _, _, rfl⟩, A4⟩
      · rintro σ H3 ⟨⟨x5, x6, x7, rfl⟩, A3⟩
        rw [lm, List.take_length] at A3
        have mm := muCome_eq (ns := nmsOf rows) A3.f A3.w
        have g1 := G.meas
        have g2 := G.len
        refine ⟨⟨_, _, _, _, _, rfl, A3, W1.turn hm (fun ms' h' => uq _ _ _ h' hm), ?_, ?_⟩, ?_⟩
        · simp only [List.length_append, List.length_cons, List.length_nil] at m1 g1
          omega
        · simp only at g2 m2
          omega
        · show muCome _ _ _ _ < muCome _ _ _ _
          rw [mm, m0]
          simp only [List.length_append, List.length_cons, List.length_nil, List.length_map] at m1 g1 ⊢
          omega
  · rintro σ H1 Q1 Q2 m ⟨v, e, k, t, q⟩
    exact ⟨v, e, k, t, m _ _ q⟩
end
end Cb
set_option Elab.async false
set_option linter.all false
set_option maxRecDepth 100000
set_option maxHeartbeats 4000000
namespace Cb
open PySem PySem.Spec PyProof.Rows L2 ExS
/-! ### a comprehension with two fors, over walks -/
section
variable {J J1 : It} {n : Nat} {G : Hp → Prop} {Y : Nat → Hp → V → Hp → Prop}
theorem lc2_it (w : Walk J n G Y) {g : TG} {tt : TT} {wi1 : TI} {g1 : TG} {tt1 : TT} {te : TE} {vs vs1 : List Nat} {σ : L2.St} {H1 : Hp} {D : Addr} {Qd : Hp → Prop} (Pv : Nat → Hp → Prop) (h0 : Pv 0 (upd H1 D (.lst []))) (hG : ∀ i H, i ≤ n → Pv i H → G H)
    (hs : ∀ i x H H', i < n → Pv i H → Y i H x H' → g x (wipe σ vs) H' fun σ2 H2 => wipe σ2 vs = wipe σ vs ∧ tt σ2 H2 fun b H3 =>
      if b = true then wi1 σ2 H3 fun J1 H4 => ∃ W1 : Nat → Nat → Hp → Prop, (∃ m, W1 0 m H4) ∧ ∀ j k H, W1 j k H →
        (J1.stop j H ∧ Pv (i + 1) H) ∨ (J1.go j H ∧ ∃ Nx1 : Hp → Prop, (∀ H', Nx1 H' → ∃ k', k' < k ∧ W1 (j + 1) k' H') ∧ ∀ x H', J1.yld j H x H' → g1 x (wipe σ2 vs1) H' fun σ3 H5 => wipe σ3 vs1 = wipe σ2 vs1 ∧ tt1 σ3 H5 fun b H6 =>
          if b = true then te σ3 H6 fun y H7 => ∃ acc, H7 D = some (.lst acc) ∧ acc.length < sizeLine ∧ Nx1 (upd H7 D (.lst (acc ++ [y]))) else Nx1 H6)
      else Pv (i + 1) H3) (hd : ∀ H, Pv n H → Qd H) :
    ∃ W : Nat → Nat → Hp → Prop, (∃ m, W 0 m (upd H1 D (.lst []))) ∧ ∀ i m H, W i m H →
      (J.stop i H ∧ Qd H) ∨ (J.go i H ∧ ∃ Nx : Hp → Prop, (∀ H', Nx H' → ∃ m', m' < m ∧ W (i + 1) m' H') ∧ ∀ x H', J.yld i H x H' → g x (wipe σ vs) H' fun σ2 H2 => wipe σ2 vs = wipe σ vs ∧ tt σ2 H2 fun b H3 =>
        if b = true then wi1 σ2 H3 fun J1 H4 => ∃ W1 : Nat → Nat → Hp → Prop, (∃ m, W1 0 m H4) ∧ ∀ j k H, W1 j k H →
          (J1.stop j H ∧ Nx H) ∨ (J1.go j H ∧ ∃ Nx1 : Hp → Prop, (∀ H', Nx1 H' → ∃ k', k' < k ∧ W1 (j + 1) k' H') ∧ ∀ x H', J1.yld j H x H' → g1 x (wipe σ2 vs1) H' fun σ3 H5 => wipe σ3 vs1 = wipe σ2 vs1 ∧ tt1 σ3 H5 fun b H6 =>
            if b = true then te σ3 H6 fun y H7 => ∃ acc, H7 D = some (.lst acc) ∧ acc.length < sizeLine ∧ Nx1 (upd H7 D (.lst (acc ++ [y]))) else Nx1 H6)
        else Nx H3) := by
  refine ⟨fun i m H => m = n - i ∧ i ≤ n ∧ Pv i H, ⟨n, by simp, Nat.zero_le _, h0⟩, ?_⟩
  rintro i m H ⟨rfl, hi, p⟩
  have q := hG i H hi p
  by_cases hlt : i < n
  · refine .inr ⟨w.goes i H hlt q, Pv (i + 1), fun H' p' => ⟨n - (i + 1), by omega, rfl, hlt, p'⟩, fun x H' y => hs i x H H' hlt p (w.yields i H x H' hlt q y)⟩
  · have e : i = n := by omega
    subst e
    exact .inl ⟨w.stops H q, hd H p⟩
/-- the inner one -/
theorem lc2_in (w : Walk J1 n G Y) {g1 : TG} {tt1 : TT} {te : TE} {vs1 : List Nat} {σ2 : L2.St} {H4 : Hp} {D : Addr} {Nx : Hp → Prop} (Pv : Nat → Hp → Prop) (h0 : Pv 0 H4) (hG : ∀ i H, i ≤ n → Pv i H → G H)
    (hs : ∀ j x H H', j < n → Pv j H → Y j H x H' → g1 x (wipe σ2 vs1) H' fun σ3 H5 => wipe σ3 vs1 = wipe σ2 vs1 ∧ tt1 σ3 H5 fun b H6 =>
      if b = true then te σ3 H6 fun y H7 => ∃ acc, H7 D = some (.lst acc) ∧ acc.length < sizeLine ∧ Pv (j + 1) (upd H7 D (.lst (acc ++ [y]))) else Pv (j + 1) H6) (hd : ∀ H, Pv n H → Nx H) :
    ∃ W1 : Nat → Nat → Hp → Prop, (∃ m, W1 0 m H4) ∧ ∀ j k H, W1 j k H →
      (J1.stop j H ∧ Nx H) ∨ (J1.go j H ∧ ∃ Nx1 : Hp → Prop, (∀ H', Nx1 H' → ∃ k', k' < k ∧ W1 (j + 1) k' H') ∧ ∀ x H', J1.yld j H x H' → g1 x (wipe σ2 vs1) H' fun σ3 H5 => wipe σ3 vs1 = wipe σ2 vs1 ∧ tt1 σ3 H5 fun b H6 =>
        if b = true then te σ3 H6 fun y H7 => ∃ acc, H7 D = some (.lst acc) ∧ acc.length < sizeLine ∧ Nx1 (upd H7 D (.lst (acc ++ [y]))) else Nx1 H6) := by
  refine ⟨fun i m H => m = n - i ∧ i ≤ n ∧ Pv i H, ⟨n, by simp, Nat.zero_le _, h0⟩, ?_⟩
  rintro i m H ⟨rfl, hi, p⟩
  have q := hG i H hi p
  by_cases hlt : i < n
  · refine .inr ⟨w.goes i H hlt q, Pv (i + 1), fun H' p' => ⟨n - (i + 1), by omega, rfl, hlt, p'⟩, fun x H' y => hs i x H H' hlt p (w.yields i H x H' hlt q y)⟩
  · have e : i = n := by omega
    subst e
    exact .inl ⟨w.stops H q, hd H p⟩
end
/-- the constructors of those that b tells -/
def rlist (b : Str → Bool) (rows : List Row) : List Str := (rows.map fun r => if b r.1 = true then r.2.map nameOf else []).flatten
theorem rlist_len {b : Str → Bool} : ∀ {rows : List Row}, (∀ r ∈ rows, r.2.length ≤ 8) → (rlist b rows).length ≤ 8 * rows.length
  | [], _ => Nat.le_refl _
  | r :: rows, h => by
    have ih := rlist_len (b := b) (rows := rows) fun r hr => h r (List.mem_cons_of_mem _ hr)
    have h1 := h r (List.mem_cons_self ..)
    unfold rlist at ih ⊢
    rw [List.map_cons, List.flatten_cons, List.length_append, List.length_cons]
    split
    · rw [List.length_map]; omega
    · rw [List.length_nil]; omega
theorem rlist_snoc {b : Str → Bool} {rows : List Row} {i : Nat} {r : Row} (h : rows[i]? = some r) : rlist b (rows.take (i + 1)) = rlist b (rows.take i) ++ if b r.1 = true then r.2.map nameOf else [] := by
  unfold rlist
  rw [List.take_add_one, h, List.map_append, List.flatten_append]
  simp
theorem MkRel.small {H : Hp} {kvs : Kv} {rows : List Row} (h : MkRel H kvs rows) : ∀ r ∈ rows, r.2.length ≤ 8 := by
  induction h with
  | nil => intro r hr; cases hr
  | cons _ _ l _ _ ih =>
    intro r hr
    rcases List.mem_cons.mp hr with rfl | hr
    · exact l
    · exact ih r hr
theorem MkRel.keyin {H : Hp} {kvs : Kv} {rows : List Row} (h : MkRel H kvs rows) {i : Nat} {n : Str} {v : V} (e : kvs[i]? = some (Sum.inr n, v)) : n ∈ nmsOf rows := by
  induction h generalizing i with
  | nil => cases e
  | @cons n' ml mv ms' kvs rows a b l c _ ih =>
    cases i with
    | zero =>
      simp only [List.getElem?_cons_zero, Option.some.injEq, Prod.mk.injEq, Sum.inr.injEq] at e
      exact List.mem_cons.mpr (.inl e.1.symm)
    | succ i => exact List.mem_cons_of_mem _ (ih (by rwa [List.getElem?_cons_succ] at e))
theorem MkRel.val {H : Hp} {kvs : Kv} {rows : List Row} (h : MkRel H kvs rows) (nd : (nmsOf rows).Nodup) {i : Nat} {n : Str} {v : V} (e : kvs[i]? = some (Sum.inr n, v)) : valV kvs (Sum.inr n) = some v := by
  induction h generalizing i with
  | nil => cases e
  | @cons n' ml mv ms' kvs rows a b l c r ih =>
    obtain ⟨h1, h2⟩ := List.nodup_cons.mp (show (n' :: nmsOf rows).Nodup from nd)
    cases i with
    | zero =>
      simp only [List.getElem?_cons_zero, Option.some.injEq, Prod.mk.injEq, Sum.inr.injEq] at e
      obtain ⟨rfl, rfl⟩ := e
      exact valV_pos rfl
    | succ i =>
      rw [List.getElem?_cons_succ] at e
      have m := r.keyin e
      rw [valV_neg (p := (Sum.inr n', V.ref ml)) (fun q => h1 (by rw [Sum.inr.inj q]; exact m))]
      exact ih h2 e
section
variable {P : Program} {w : World} {K : PySem.W.Frag} {mg : Str → Option Value} {base : Heap} {CL CK CB : Addr}
def sp_reached_in : Sp := fun vs H Q _ => ∃ (D : Addr) (a : Str) (kvs : Kv) (rows : List Row), vs = [.ref D, .str a] ∧ H D = some (.dK kvs) ∧ MkRel H kvs rows ∧ a ∈ nmsOf rows ∧ (nmsOf rows).Nodup ∧ rows.length ≤ 12 ∧
  ∀ p b H', Same H H' → H p = none → (∀ z, b z = true ↔ Rch rows a z) → H' p = some (.lst ((rlist b rows).map V.str)) → Q (.ref p) H'
theorem c_reached_in (T : TMk P K w mg CL CK CB) : Says P w K mg base 2 "reached_in" ["makers", "name"] sp_reached_in := by
  refine says T.d_reached_in sc_reached_in (fun vs H Q E h => ?_) (fun f cdv A outer s H vs Q E hr h => ?_)
  · obtain ⟨_, _, _, _, rfl, _⟩ := h; rfl
  refine ⟨_, (pss_cons (ps_set (i := 2) sc_reached_in.nd rfl (.inr rfl) (pe_s (c_come_to T) hr (pa_cons (pv 0) (pa_cons (pv 1) pa_nil))))
    (pss_one (ps_ret (pe_lock (pe_lc2 (own := [("kind", 3), ("maker", 4)]) (vs1 := [4]) (g := gName 3) (tt := tYes) (wi1 := iList K (tDGet (tVar 0) (tVar 3))) (g1 := gName 4) (tt1 := tB (tDIn (tVar 3) (tVar 2))) rfl sc_reached_in.nd (pi_keys (pv 0)) (blkOk_by (N := ["makers", "name", "found", "kind", "maker"]) (sc := defScope s_reached_in) (own := [("kind", 3), ("maker", 4)]) (by decide +kernel)) (by decide)
      (fun _ _ _ _ _ => pg_name (i := 3) sc_reached_in.nd rfl (Or.inl rfl)) (fun _ _ _ _ _ => pts_nil) (fun _ _ _ _ _ => pi_list (pe_dget (hu_of hr) (pv 0) (pv 3) (fun _ _ => rfl))) (fun _ _ _ _ _ => pg_name (i := 4) sc_reached_in.nd rfl (Or.inl rfl)) (fun _ _ _ _ _ => pts_one (pt_cmp (pc_din (hu_of hr) (pv 3) (pv 2)))) (fun _ _ _ _ _ => pe_ix (r := rIxT K) ix_tup (pv 4) pe_int (fun _ _ => rfl))))))), ?_⟩
  obtain ⟨D, a, kvs, rows, rfl, hD, rel, ha, nd, l12, q⟩ := h
  refine ⟨_, rfl, _, rfl, D, a, kvs, rows, rfl, hD, rel, ha, nd, l12, fun F fs H1 s1 nF hF ef => ?_⟩
  have hD1 := s1 _ _ hD
  have rel1 := rel.same s1
  have nFD : F ≠ D := (ne_of_none hD nF).symm
  refine ⟨D, _, hD1, trivial, fun od => ?_⟩
  refine ⟨_, rfl, D, od, rfl, .inl ⟨kvs, upd_same, fun C hC => ?_⟩⟩
  have nCD : C ≠ D := fun e => by rw [e, upd_same] at hC; cases hC
  have hC1 : H1 C = none := by rwa [upd_ne nCD] at hC
  have lk := rel1.length
  have sml := rel1.small
  refine lc2_it (walk_keys (d := D) (o := od) (kvs := kvs)) (fun i H' => H' D = some (.frz od (.dK kvs)) ∧ (∀ b o, b ≠ D → H1 b = some o → H' b = some o) ∧ H' C = some (.lst ((rlist (kHas fs) (rows.take i)).map V.str)))
    ⟨(upd_ne nCD.symm).trans upd_same, fun b o n e => by rw [upd_ne (ne_of_none e hC1), upd_ne n]; exact e, upd_same⟩ (fun i H' _ y => y.1) ?_ ?_
  · rintro i x H2 H3 hi ⟨h1, h2, h3⟩ ⟨rfl, k, v, hkv, rfl⟩
    obtain ⟨⟨n, ms⟩, hri⟩ : ∃ r, rows[i]? = some r := ⟨rows[i]'(by omega), List.getElem?_eq_getElem (by omega)⟩
    obtain ⟨ml, mv, hk2, hml, dms, l8, al⟩ := rel1.at hri
    obtain ⟨rfl, rfl⟩ : k = Sum.inr n ∧ v = .ref ml := by rw [hkv] at hk2; simpa using hk2
    have lm := dms.length
    have hn : n ∈ nmsOf rows := List.mem_map.mpr ⟨(n, ms), List.mem_of_getElem? hri, rfl⟩
    obtain ⟨ms', ml', mv', hm', hv', _⟩ := rel1.look hn
    have hvv := rel1.val nd hkv
    have nmD : ml ≠ D := fun e => by rw [e, hD1] at hml; cases hml
    refine ⟨rfl, ?_⟩
    refine ⟨_, rfl, _, rfl, D, _, rfl, .inl ⟨kvs, Sum.inr n, .inr ⟨od, h1⟩, rfl, hvv.symm⟩, ml, rfl, ⟨_, SqL.of (h2 _ _ nmD hml)⟩, ?_⟩
    rw [rlist_snoc hri]
    refine lc2_in (walk_list (K := K) (a := ml) (xs := mv)) (fun j H' => H' D = some (.frz od (.dK kvs)) ∧ (∀ b o, b ≠ D → H1 b = some o → H' b = some o) ∧ H' C = some (.lst ((rlist (kHas fs) (rows.take i) ++ if kHas fs n = true then (ms.map nameOf).take j else []).map V.str)))
      ⟨h1, h2, ?_⟩ (fun j H' _ y => SqL.of (y.2.1 _ _ nmD hml)) ?_ ?_
    · rw [List.take_zero, ite_self, List.append_nil]
      exact h3
    · rintro j x H4 H5 hj ⟨g1, g2, g3⟩ ⟨rfl, hx⟩
      have hmi : ms[j]? = some (ms[j]'(by omega)) := List.getElem?_eq_getElem (by omega)
      have im : isMaker (ms[j]'(by omega)) = true := List.all_eq_true.mp al _ (List.getElem_mem _)
      obtain ⟨pt, y, pk, kv, ks, ed, rfl, hpt, hpk, _⟩ := maker_dt im (dms.get hx hmi)
      have npD : pt ≠ D := fun e => by rw [e, hD1] at hpt; cases hpt
      refine ⟨rfl, ?_⟩
      refine ⟨_, rfl, _, rfl, F, _, rfl, DGet.k (k := Sum.inr n) (g2 _ _ nFD hF), ?_⟩
      refine ⟨_, rfl, ?_⟩
      show if kHas fs n = true then _ else _
      cases eb : kHas fs n with
      | false =>
        rw [eb] at g3
        exact iteF ⟨g1, g2, g3⟩
      | true =>
        rw [eb] at g3
        refine iteT ?_
        refine ⟨_, rfl, pt, _, 0, _, rfl, rfl, SqT.of (g2 _ _ npD hpt), rfl, _, g3, ?_, ?_, ?_, ?_⟩
        · have l1 := rlist_len (b := kHas fs) (rows := rows.take i) fun r hr => sml r (List.mem_of_mem_take hr)
          rw [List.length_take] at l1
          refine small1000 ?_
          rw [List.length_map, List.length_append, if_pos rfl, List.length_take, List.length_map]
          omega
        · rw [upd_ne nCD.symm]
          exact g1
        · intro b o n e
          rw [upd_ne (ne_of_none e hC1)]
          exact g2 b o n e
        · rw [upd_same, if_pos rfl, if_pos rfl, List.take_add_one, List.getElem?_map, hmi, ed, ← List.append_assoc]
          simp only [List.map_append]
          rfl
    · rintro H4 ⟨g1, g2, g3⟩
      rw [show mv.length = (ms.map nameOf).length by rw [List.length_map]; exact lm, List.take_length] at g3
      exact ⟨g1, g2, g3⟩
  · rintro H2 ⟨h1, h2, h3⟩
    rw [lk, List.take_length] at h3
    refine ⟨h1, q C (kHas fs) _ ?_ (s1.free hC1) ef ((upd_ne nCD).trans h3)⟩
    intro b o e
    by_cases eb : b = D
    · rw [eb, upd_same]
      rw [eb, hD] at e
      exact e
    · rw [upd_ne eb]
      exact h2 b o eb (s1 _ _ e)
def okReached (H : Hp) (Q : VK) (ds : List PyData) (z : Str) : Prop := ∀ p b H', Same H H' → H p = none → (∀ y, b y = true ↔ Rch (rowsOf ds) z y) → H' p = some (.lst ((rlist b (rowsOf ds)).map V.str)) → Q (.ref p) H'
def sp_reached (CL CK : Addr) : Sp := fun vs H Q E => Asked CL CK vs H E (okReached H Q)
theorem c_reached (T : TMk P K w mg CL CK CB) : SaysX2 P w K mg base 10 "reached" ["kinds", "name"] ["name", "kinds"] List.reverse (sp_reached CL CK) := by
  refine saysX2 T.d_reached sc_reached (fun vs H Q E h => len_asked h) (fun f cdv A outer s H vs Q E hr h => ?_)
  refine ⟨_, (pss_one (ps_ret (pe_s (c_reached_in T) hr (pa_cons (pe_sx (c_asked T) hr (takes_of rfl rfl rfl rfl) (pa_cons (pv 0) (pa_cons (pv 1) pa_nil))) (pa_cons (pv 1) pa_nil))))), ?_⟩
  have h0 := h
  obtain ⟨vk, vn, dk, dn, rfl, hk, hn, _, _⟩ := h0
  refine ⟨_, rfl, _, rfl, Asked.mono h (fun C v H' r dd hd => r dd hd) fun vk' ds z ev dk' F hz q D kvs H1 s1 hD hd rel => ?_⟩
  obtain ⟨rfl, rfl⟩ : vk = vk' ∧ vn = .str z := by simpa using ev
  refine ⟨_, rfl, D, z, kvs, rowsOf ds, rfl, hd, rel, hz, F.rnodup, ?_, fun p b H2 s2 hp hb he => ?_⟩
  · have := rowsOf_len ds
    have := F.len
    omega
  · exact q p b H2 (s1.trans s2) (s1.free hp) hb he
end
end Cb
set_option Elab.async false
set_option linter.all false
set_option maxRecDepth 100000
set_option maxHeartbeats 8000000
namespace Cb
open PySem PySem.Spec PyProof.Rows L2 ExS
abbrev s_l_come_to : Stmt := topS 38
abbrev NW : List Str := ["_law_kinds", "_law_name", "_law_found", "_law_turn", "_law_sort", "_law_other", "_law_makers", "_law_maker", "_law_parts", "_law_item", "_law_part"]
theorem sc_l_come_to : FnScope NW ["_law_kinds", "_law_name"] (defScope s_l_come_to) := ⟨rfl, rfl, rfl, by decide +kernel, rfl, by decide +kernel, by decide +kernel⟩
/-! ### a text in a row of texts -/
theorem inV_str (z : Str) (zs : List Str) : inV (.str z) (zs.map V.str) = decide (z ∈ zs) := by
  unfold inV
  induction zs with
  | nil => rfl
  | cons y zs ih =>
    rw [List.map_cons, List.any_cons, ih]
    have e : eqV (V.str y) (V.str z) = decide (z = y) := by
      show _ = _
      by_cases h : z = y
      · subst h; simp [eqV]
      · simp [eqV, h, Ne.symm h]
    rw [e]
    by_cases h1 : z = y <;> by_cases h2 : z ∈ zs <;> simp [h1, h2]
theorem flat_strs (zs : List Str) : (zs.map V.str).all flatV = true := by
  rw [List.all_eq_true]
  intro v hv
  obtain ⟨z, _, rfl⟩ := List.mem_map.mp hv
  rfl
theorem small8000 {n : Nat} (h : n < 8000) : n < sizeLine := Nat.lt_of_lt_of_le h (by decide)
theorem filter_take {α : Type} {f : α → Bool} {l : List α} {j : Nat} {x : α} (h : l[j]? = some x) : (l.take (j + 1)).filter f = (l.take j).filter f ++ if f x = true then [x] else [] := by
  rw [List.take_add_one, h, List.filter_append]
  cases e : f x <;> simp [e]
structure TLc (P : Program) (K : PySem.W.Frag) (w : World) (mg : Str → Option Value) (CL CK CB : Addr) : Prop where
  tm : TMk P K w mg CL CK CB
  td : TDraw K w mg
  d_l_come_to : Has K mg "_law_come_to" s_l_come_to ["_law_kinds", "_law_name"]
section
variable {P : Program} {w : World} {K : PySem.W.Frag} {mg : Str → Option Value} {base : Heap} {CL CK CB : Addr}
def sp_l_come_to : Sp := fun vs H Q _ => ∃ (kp : Addr) (a : Str) (xs : List V) (ds : List PyData), vs = [.ref kp, .str a] ∧ H kp = some (.lst xs) ∧ DTs H xs ds ∧ Fine ds ∧ Lawful (rowsOf ds) ∧ a ∈ nmsOf (rowsOf ds) ∧
  ∀ (L : Addr) (zs : List Str) (H' : Hp), Same H H' → H' L = some (.lst (zs.map V.str)) → (∀ z, z ∈ zs ↔ Rch (rowsOf ds) a z) → Q (.ref L) H'
theorem c_l_come_to (T : TLc P K w mg CL CK CB) : Says P w K mg base 1 "_law_come_to" ["_law_kinds", "_law_name"] sp_l_come_to := by
  refine says T.d_l_come_to sc_l_come_to (fun vs H Q E h => ?_) (fun f cdv A outer s H vs Q E hr h => ?_)
  · obtain ⟨_, _, _, _, rfl, _⟩ := h; rfl
  refine ⟨_, (pss_cons (ps_set (i := 2) sc_l_come_to.nd rfl (.inr rfl) (pe_lst (pa_cons (pv 1) pa_nil)))
    (pss_cons (ps_for PassesOwn.never rfl (pi_range1 (by rfl) T.td.tg.b_range (pa_cons (pe_callB call_len_seq (by rfl) T.tm.tk.tw.b_len (by decide +kernel) (pa_cons (pv 0) pa_nil)) pa_nil)) (pg_name (i := 3) sc_l_come_to.nd rfl (.inl rfl))
        (pss_one (ps_for PassesOwn.never rfl (pi_list (pe_lc (own := [("_law_item", 9)]) (g := gName 9) rfl sc_l_come_to.nd (pi_list (pv 0)) (blkOk_by (N := NW) (sc := defScope s_l_come_to) (own := [("_law_item", 9)]) (by decide +kernel)) (fun _ _ _ _ _ => pg_name (i := 9) sc_l_come_to.nd rfl (Or.inl rfl)) (fun _ _ _ _ _ => pts_one (pt_cmpR op_eq (pe_ix (r := rIxT K) ix_tup (pv 9) pe_int (fun _ _ => rfl)) pe_str (nomark _))) (fun _ _ _ _ _ => (pv 9)))) (pg_tup rfl (pgs_cons (pg_name (i := 4) sc_l_come_to.nd rfl (.inl rfl)) (pgs_cons (pg_name (i := 5) sc_l_come_to.nd rfl (.inl rfl)) (pgs_cons (pg_name (i := 6) sc_l_come_to.nd rfl (.inl rfl)) pgs_nil))))
            (pss_one (ps_if (pt_cmpR op_in_seq (pv 5) (pv 2) (by rfl))
                (pss_one (ps_for PassesOwn.never rfl (pi_list (pv 6)) (pg_tup rfl (pgs_cons (pg_name (i := 7) sc_l_come_to.nd rfl (.inl rfl)) (pgs_cons (pg_name (i := 8) sc_l_come_to.nd rfl (.inl rfl)) pgs_nil)))
                    (pss_one (ps_set (i := 2) sc_l_come_to.nd rfl (.inr rfl) (pe_op op_cat (pv 2) (pe_lc (own := [("_law_part", 10)]) (g := gName 10) rfl sc_l_come_to.nd (pi_list (pv 8)) (blkOk_by (N := NW) (sc := defScope s_l_come_to) (own := [("_law_part", 10)]) (by decide +kernel)) (fun _ _ _ _ _ => pg_name (i := 10) sc_l_come_to.nd rfl (Or.inl rfl))
                      (fun _ _ _ _ _ => pts_one (PW.pt (pw_and (pt_cmpR (r := rIn K true) op_notIn_seq (pv 10) (pe_lst (pa_cons pe_str (pa_cons pe_str (pa_cons pe_str pa_nil)))) (by rfl)) (pw_and1 (pt_cmpR (r := rIn K true) op_notIn_seq (pv 10) (pv 2) (by rfl)))))) (fun _ _ _ _ _ => (pv 10))))))))
                pss_nil)))))
    (pss_one (ps_ret (pv 2))))), ?_⟩
  obtain ⟨kp, a, xs, ds, rfl, hk, hds, F, LW, ha, q⟩ := h
  have lx := hds.length
  have l12 := F.len
  have rl := rowsOf_len ds
  refine ⟨_, rfl, (show 1 ≤ sizeLine by decide), fun L0 nL0 => ?_⟩
  refine ⟨_, rfl, kp, xs, rfl, .inl (SqL.of (same_new nL0 _ _ hk)), _, rfl, by omega, by omega, for_range (n := xs.length) (fun j σ H' => (∃ (L : Addr) (zs : List Str) (x3 x4 x5 x6 x7 x8 : Option V), σ = [some (.ref kp), some (.str a), some (.ref L), x3, x4, x5, x6, x7, x8, none, none] ∧ H' L = some (.lst (zs.map V.str)) ∧ Lt (rowsOf ds) a j zs ∧ zs.length ≤ 1 + 500 * j) ∧ Same H H')
    ⟨⟨L0, [a], _, _, _, _, _, _, rfl, upd_same, Lt.start ha, (show 1 ≤ 1 from Nat.le_refl 1)⟩, same_new nL0⟩ ?_ ?_⟩
  · rintro j σ H1 hj ⟨⟨L, zs, x3, x4, x5, x6, x7, x8, rfl, hL, lt, ll⟩, s1⟩
    refine ⟨_, rfl, kp, rfl, ⟨_, SqL.of (s1 _ _ hk)⟩, fun C hC => ?_⟩
    refine lc_it (walk_list (K := K) (a := kp) (xs := xs)) (fun i H' => Same H1 H' ∧ ∃ ys, H' C = some (.lst ys) ∧ DTs H ys ((ds.take i).filter isCh)) ⟨same_new hC, [], upd_same, .nil⟩ (fun i H' _ y => SqL.of (y.1 _ _ (s1 _ _ hk))) ?_ ?_
    · rintro i x H2 H3 hi ⟨s2, ys, hy, dy⟩ ⟨rfl, hx⟩
      have hdi : ds[i]? = some (ds[i]'(by omega)) := List.getElem?_eq_getElem (by omega)
      have hdt := hds.get hx hdi
      have df := F.form _ (List.getElem_mem (h := by omega) : ds[i]'(by omega) ∈ ds)
      have ef := filter_take (f := isCh) hdi
      rcases decl_dt df hdt with ⟨pt, n, ml, mv, ms, ed, rfl, hpt, hml, hmv, l8, al⟩ | ⟨pt, n, kl, a', ks, ed, rfl, hpt⟩
      · refine ⟨rfl, ?_⟩
        refine ⟨_, rfl, pt, _, 0, _, rfl, rfl, SqT.of (s2 _ _ (s1 _ _ hpt)), rfl, rfl, _, rfl, ifY rfl ?_⟩
        refine ⟨_, rfl, ys, hy, ?_, ?_, _, upd_same, ?_⟩
        · have := dy.length
          have := List.length_filter_le isCh (ds.take i)
          rw [List.length_take] at this
          exact small1000 (by omega)
        · intro b o e
          rw [upd_ne (ne_of_none e hC)]
          exact s2 _ _ e
        · rw [ef, ed, if_pos isCh_choice]
          exact dy.snoc (ed ▸ hdt)
      · refine ⟨rfl, ?_⟩
        refine ⟨_, rfl, pt, _, 0, _, rfl, rfl, SqT.of (s2 _ _ (s1 _ _ hpt)), rfl, rfl, _, rfl, ifN (by decide +kernel) ?_⟩
        refine ⟨s2, ys, hy, ?_⟩
        rw [ef, ed, if_neg (by rw [isCh_calls]; decide), List.append_nil]
        exact dy
    · rintro H2 ⟨s2, ys, hy, dy⟩
      rw [lx, List.take_length] at dy
      have ly := dy.length
      have lr : (rowsOf ds).length = (ds.filter isCh).length := List.length_map ..
      have s12 := s1.trans s2
      refine ⟨C, rfl, ⟨_, SqL.of hy⟩, for_list (xs := ys) (fun i σ H' => (∃ (L : Addr) (zs' : List Str) (x4 x5 x6 x7 x8 : Option V), σ = [some (.ref kp), some (.str a), some (.ref L), some (.int (0 + (j : Int))), x4, x5, x6, x7, x8, none, none] ∧ H' L = some (.lst (zs'.map V.str)) ∧ Lk (rowsOf ds) a zs ((rowsOf ds).take i) zs' ∧ zs'.length ≤ zs.length + 40 * i) ∧ Same H2 H')
        ⟨⟨L, zs, _, _, _, _, _, rfl, s2 _ _ hL, ⟨fun _ h => h, lt.sound, fun r hr => by simp at hr⟩, Nat.le_add_right _ _⟩, Same.refl _⟩ (fun i σ H' _ z => SqL.of (z.2 _ _ hy)) ?_ ?_⟩
      · rintro i x σ H3 hx ⟨⟨L3, zs3, x4, x5, x6, x7, x8, rfl, hL3, lk, l3⟩, s3⟩
        have hi := (List.getElem?_eq_some_iff.mp hx).1
        have hfi : (ds.filter isCh)[i]? = some ((ds.filter isCh)[i]'(by omega)) := List.getElem?_eq_getElem (by omega)
        have dm : (ds.filter isCh)[i]'(by omega) ∈ ds.filter isCh := List.getElem_mem _
        obtain ⟨dmem, dch⟩ := List.mem_filter.mp dm
        have hdt := dy.get hx hfi
        have hri : (rowsOf ds)[i]? = some (declName ((ds.filter isCh)[i]'(by omega)), makersOf ((ds.filter isCh)[i]'(by omega))) := by
          unfold rowsOf
          rw [List.getElem?_map, hfi]
          rfl
        have s13 := s12.trans s3
        generalize (ds.filter isCh)[i]'(by omega) = d at hdt dmem dch hri
        rcases decl_dt (F.form d dmem) hdt with ⟨pt, n, ml, mv, ms, rfl, rfl, hpt, hml, hmv, l8, al⟩ | ⟨pt, n, kl, a', ks, rfl, rfl, hpt⟩
        · have hri : (rowsOf ds)[i]? = some (n, ms) := hri
          have hnm : (n, ms) ∈ rowsOf ds := List.mem_of_getElem? hri
          have et : (rowsOf ds).take (i + 1) = (rowsOf ds).take i ++ [(n, ms)] := by rw [List.take_add_one, hri]; rfl
          have lm := hmv.length
          refine ⟨pt, _, rfl, SqT.of (s13 _ _ hpt), rfl, _, _, rfl, _, _, rfl, _, _, rfl, rfl, ?_⟩
          refine ⟨_, rfl, _, rfl, L3, _, rfl, .inl (SqL.of hL3), rfl, flat_strs _, _, rfl, ?_⟩
          rw [if_neg (by decide), inV_str, et]
          by_cases hz : n ∈ zs3
          · rw [decide_eq_true hz]
            refine iteT ?_
            refine ⟨_, rfl, ml, rfl, ⟨_, SqL.of (s13 _ _ hml)⟩, for_list (xs := mv) (fun m σ H' => (∃ (L : Addr) (zs' : List Str) (x7 x8 : Option V), σ = [some (.ref kp), some (.str a), some (.ref L), some (.int (0 + (j : Int))), some (.str "choice"), some (.str n), some (.ref ml), x7, x8, none, none] ∧ H' L = some (.lst (zs'.map V.str)) ∧ Lm (rowsOf ds) a zs3 (ms.take m) zs' ∧ zs'.length ≤ zs3.length + 4 * m) ∧ Same H3 H')
              ⟨⟨L3, zs3, _, _, rfl, hL3, ⟨fun _ h => h, lk.sound, fun r hr => by simp at hr⟩, Nat.le_add_right _ _⟩, Same.refl _⟩ (fun i σ H' _ z => SqL.of (z.2 _ _ (s13 _ _ hml))) ?_ ?_⟩
            · rintro m x σ H4 hx4 ⟨⟨L4, zs4, x7, x8, rfl, hL4, lm4, l4⟩, s4⟩
              have hm := (List.getElem?_eq_some_iff.mp hx4).1
              have hmi : ms[m]? = some (ms[m]'(by omega)) := List.getElem?_eq_getElem (by omega)
              have im : isMaker (ms[m]'(by omega)) = true := List.all_eq_true.mp al _ (List.getElem_mem _)
              have s14 := s13.trans s4
              have st := lm4.step LW hnm (List.getElem_mem (h := by omega) : ms[m]'(by omega) ∈ ms) hz
              have em : ms.take (m + 1) = ms.take m ++ [ms[m]'(by omega)] := by rw [List.take_add_one, hmi]; rfl
              rw [← em] at st
              obtain ⟨qt, y, pk, kv, ks, ed, rfl, hqt, hpk, hkv, ekv, k4, ka⟩ := maker_dt im (hmv.get hx4 hmi)
              rw [ed, show partsOf (.tuple [.str y, .list ks]) = ks.map strOf from rfl] at st
              have lkv : kv.length = (ks.map strOf).length := by rw [ekv, List.length_map]
              have lps : (ks.map strOf).length ≤ 4 := by rw [List.length_map]; exact k4
              generalize ks.map strOf = ps at st ekv lkv lps
              refine ⟨qt, _, rfl, SqT.of (s14 _ _ hqt), rfl, _, _, rfl, _, _, rfl, rfl, ?_⟩
              refine ⟨_, rfl, _, rfl, pk, rfl, ⟨_, SqL.of (s14 _ _ hpk)⟩, fun C2 hC2 => ?_⟩
              refine lc_it (walk_list (K := K) (a := pk) (xs := kv)) (fun i H' => Same H4 H' ∧ H' C2 = some (.lst (((ps.take i).filter fun p => !decide (p ∈ nfs) && !decide (p ∈ zs4)).map V.str))) ⟨same_new hC2, upd_same⟩ (fun i H' _ y => SqL.of (y.1 _ _ (s14 _ _ hpk))) ?_ ?_
              · rintro i5 x H5 H6 hi5 ⟨s5, h5⟩ ⟨rfl, hx5⟩
                rw [ekv, List.getElem?_map] at hx5
                obtain ⟨p, hp, rfl⟩ : ∃ p, ps[i5]? = some p ∧ V.str p = x := by
                  cases e : ps[i5]? with
                  | none => rw [e] at hx5; cases hx5
                  | some p => rw [e] at hx5; exact ⟨p, rfl, Option.some.inj hx5⟩
                have ef := filter_take (f := fun p => !decide (p ∈ nfs) && !decide (p ∈ zs4)) hp
                refine ⟨rfl, ?_⟩
                refine ⟨_, rfl, (show 3 ≤ sizeLine by decide), fun l nl => ?_⟩
                have u1 : Same H6 (upd H6 l (.lst [.str "num", .str "flag", .str "step"])) := same_new nl
                refine ⟨l, _, rfl, .inl (SqL.of upd_same), rfl, by decide, _, rfl, ?_⟩
                rw [if_pos rfl, show ([V.str "num", V.str "flag", V.str "step"] : List V) = nfs.map V.str from rfl, inV_str]
                have keep : ∀ {b o}, H4 b = some o → (upd H6 l (.lst (nfs.map V.str))) b = some o := fun {b o} e => u1 _ _ (s5 _ _ e)
                by_cases h1 : p ∈ nfs
                · rw [decide_eq_true h1]
                  refine iteF ⟨fun b o e => keep e, ?_⟩
                  rw [ef, if_neg (by rw [decide_eq_true h1]; simp), List.append_nil]
                  exact u1 _ _ h5
                · rw [decide_eq_false h1]
                  refine iteT ?_
                  refine ⟨_, rfl, _, rfl, L4, _, rfl, .inl (SqL.of (keep hL4)), rfl, flat_strs _, _, rfl, ?_⟩
                  rw [if_pos rfl, inV_str]
                  by_cases h2 : p ∈ zs4
                  · rw [decide_eq_true h2]
                    refine iteF ⟨fun b o e => keep e, ?_⟩
                    rw [ef, if_neg (by rw [decide_eq_true h2]; simp), List.append_nil]
                    exact u1 _ _ h5
                  · rw [decide_eq_false h2]
                    refine iteT ⟨_, rfl, _, u1 _ _ h5, ?_, ?_, ?_⟩
                    · rw [List.length_map]
                      have h3 := List.length_filter_le (fun p => !decide (p ∈ nfs) && !decide (p ∈ zs4)) (ps.take i5)
                      rw [List.length_take] at h3
                      exact small1000 (by omega)
                    · intro b o e
                      rw [upd_ne (ne_of_none e hC2)]
                      exact keep e
                    · rw [upd_same, ef, if_pos (by rw [decide_eq_false h1, decide_eq_false h2]; rfl)]
                      simp only [List.map_append]
                      rfl
              · rintro H5 ⟨s5, h5⟩
                rw [lkv, List.take_length] at h5
                have h6 := lawM_len zs4 ps
                have h7 := List.length_filter_le (fun p => !decide (p ∈ nfs) && !decide (p ∈ zs4)) ps
                refine ⟨L4, C2, _, _, rfl, rfl, s5 _ _ hL4, h5, ?_, fun R nR => ?_⟩
                · rw [List.length_map, List.length_map]
                  exact Nat.le_of_lt (small8000 (by omega))
                · refine ⟨⟨R, lawM zs4 ps, _, _, rfl, ?_, st, by omega⟩, s4.trans (s5.trans (same_new nR))⟩
                  rw [upd_same]
                  unfold lawM
                  rw [List.map_append]
            · rintro σ H4 ⟨⟨L4, zs4, x7, x8, rfl, hL4, lm4, l4⟩, s4⟩
              rw [lm, List.take_length] at lm4
              exact ⟨⟨L4, zs4, _, _, _, _, _, rfl, hL4, lk.step lm4, by omega⟩, s3.trans s4⟩
          · rw [decide_eq_false hz]
            exact iteF ⟨⟨L3, zs3, _, _, _, _, _, rfl, hL3, lk.skip hz, by omega⟩, s3⟩
        · rw [isCh_calls] at dch
          cases dch
      · rintro σ H3 ⟨⟨L3, zs3, x4, x5, x6, x7, x8, rfl, hL3, lk, l3⟩, s3⟩
        rw [show ys.length = (rowsOf ds).length by omega, List.take_length] at lk
        exact ⟨⟨L3, zs3, _, _, _, _, _, _, rfl, hL3, lt.turn lk, by omega⟩, s12.trans s3⟩
  · rintro σ H1 ⟨⟨L, zs, x3, x4, x5, x6, x7, x8, rfl, hL, lt, ll⟩, s1⟩
    exact ⟨_, rfl, q L zs H1 s1 hL fun z => lt.fin (by omega) z⟩
end
end Cb
set_option Elab.async false
set_option linter.all false
set_option maxRecDepth 100000
set_option maxHeartbeats 8000000
namespace Cb
open PySem PySem.Spec PyProof.Rows L2 ExS
theorem r_sized {K : PySem.W.Frag} {u : Nat} {H : Hp} {Q : VK} {v : V} {d : PyData} (h : DT H v d) (z : Sized d) (hu : u + 200 < cLine) (q : Q (.str (PyData.shown d)) H) : rRep2 K u [v] H Q := by
  unfold rRep2
  rcases z with rfl | ⟨ws, fi, l, b⟩
  · cases h with
    | dct e => exact .inr ⟨_, rfl, e, hu, q⟩
  · exact .inl (r_fits h fi l b hu q)
theorem Sized.ok {d : PyData} (z : Sized d) : OKd d ∨ d = .dict [] := by
  rcases z with rfl | ⟨ws, fi, l, b⟩
  · exact .inr rfl
  · exact .inl (fi.ok l)
abbrev s_l_caught : Stmt := topS 39
abbrev NC : List Str := ["_law_which", "_law_kinds", "_law_name", "_law_error", "e"]
theorem sc_l_caught : FnScope NC ["_law_which", "_law_kinds", "_law_name"] (defScope s_l_caught) := ⟨rfl, rfl, rfl, by decide +kernel, rfl, by decide +kernel, by decide +kernel⟩
structure TCa (P : Program) (K : PySem.W.Frag) (w : World) (mg : Str → Option Value) (CL CK CB : Addr) : Prop where
  tl : TLc P K w mg CL CK CB
  d_l_caught : Has K mg "_law_caught" s_l_caught ["_law_which", "_law_kinds", "_law_name"]
  b_repr : mg "repr" = none
section
variable {P : Program} {w : World} {K : PySem.W.Frag} {mg : Str → Option Value} {base : Heap} {CL CK CB : Addr}
def okTup (H : Hp) (Q : VK) (b c : Bool) (d : PyData) : Prop := ∀ (t l : Addr) (H' : Hp), Same H H' → H' t = some (.tup [.ref l, .str (PyData.shown d)]) → H' l = some (.lst [.bl b, .bl c]) → Q (.ref t) H'
def sp_caught : Sp := fun vs H Q _ => ∃ (which : Int) (vk vn : V) (dk dn : PyData), vs = [.int which, vk, vn] ∧ (which = 0 ∨ which = 1) ∧ DT H vk dk ∧ DT H vn dn ∧ (OKd dk ∨ dk = .dict []) ∧
  ((isKinds dk = false ∧ Sized dk ∧ okTup H Q true false dk) ∨ ∃ ds, dk = .list ds ∧ Fine ds ∧ (∀ z, dn = .str z → z ∉ nmsOf (rowsOf ds)) ∧ Sized dn ∧ okTup H Q false true dn)
theorem c_l_caught (T : TCa P K w mg CL CK CB) : SaysG P w K mg base 11 "_law_caught" ["_law_which", "_law_kinds", "_law_name"] sp_caught := by
  refine saysG T.d_l_caught sc_l_caught (fun vs H Q E h => ?_) (fun f cdv A outer s H vs Q E ga hr h => ?_)
  · obtain ⟨_, _, _, _, _, rfl, _⟩ := h; rfl
  refine ⟨_, (pss_cons (ps_set (i := 3) sc_l_caught.nd rfl (.inl rfl) pe_non)
    (pss_cons (ps_try_keep (i := 4) (Wout := fun _ _ _ _ => False) rfl rfl sc_l_caught.nd rfl rfl ⟨rfl, by decide, Or.inl T.tl.tm.te.gB⟩ takes0 rfl
        (fun W pn xe tk _ => pss_one (ps_if (pt_cmpR op_eq (pv 0) pe_int (nomark _))
          (pss_one (ps_expr (pe_sx (c_constructors T.tl.tm).toX hr tk (pa_cons (pv 1) (pa_cons (pv 2) pa_nil)))))
          (pss_one (ps_expr (pe_sx (c_reached T.tl.tm).toX hr tk (pa_cons (pv 1) (pa_cons (pv 2) pa_nil)))))))
        (fun a oe cls d pn hz hf => pss_one (ps_set (i := 3) sc_l_caught.nd rfl (.inl rfl) (pv 4))))
    (pss_one (ps_ret (pe_tup (pa_cons (pe_lst (pa_cons (pe_callB call_isX (by rfl) T.tl.tm.tk.tw.b_isinstance (by decide +kernel) (pa_cons (pv 3) (pa_cons (pe_glob (v := .ref CL) rfl T.tl.tm.te.bL.gC rfl) pa_nil))) (pa_cons (pe_callB call_isX (by rfl) T.tl.tm.tk.tw.b_isinstance (by decide +kernel) (pa_cons (pv 3) (pa_cons (pe_glob (v := .ref CK) rfl T.tl.tm.te.bK.gC rfl) pa_nil))) pa_nil)))
      (pa_cons (pe_ifExp (pt_cmpR op_isN (pv 3) pe_non (nomark _)) pe_non (pe_callB (call_repr2 ga) (by rfl) T.b_repr (by decide +kernel) (pa_cons (pe_kf (n := "value") (pv 3)) pa_nil))) pa_nil))))))), ?_⟩
  obtain ⟨which, vk, vn, dk, dn, rfl, hw, hk, hn, ok, c⟩ := h
  have hu := hr.un
  have hu' : (A.deeper (envOfC "_law_caught" (defScope s_l_caught) s.heap.objs.size f cdv)).units + 200 < cLine := by omega
  rcases hw with rfl | rfl
  · refine ⟨_, rfl, rfl, _, rfl, iteT ?_⟩
    refine ⟨_, rfl, _, rfl, ?_⟩
    rcases c with ⟨e, sz, q⟩ | ⟨ds, rfl, F, nz, sz, q⟩
    · refine ⟨vk, vn, dk, dn, rfl, hk, hn, ok, .inl ⟨e, fun H1 s1 dd hdd => ?_⟩⟩
      have ec := T.tl.tm.te.ec CL (by simp)
      refine ⟨true, T.tl.tm.te.exm CL (by simp), fun _ a na => ?_, fun z => nomatch z⟩
      refine ⟨_, rfl, ?_⟩
      have nda : dd ≠ a := ne_of_none upd_same na
      have s2 : Same H (upd H1 dd (.xd [("value", vk)])) := s1.trans (same_new hdd)
      have s3 : Same H (upd (upd H1 dd (.xd [("value", vk)])) a (ExK (.ref CL) (some dd) a)) := s2.trans (same_new na)
      have ea : (upd (upd H1 dd (.xd [("value", vk)])) a (ExK (.ref CL) (some dd) a)) a = some (ExK (.ref CL) (some dd) a) := upd_same
      have ed : (upd (upd H1 dd (.xd [("value", vk)])) a (ExK (.ref CL) (some dd) a)) dd = some (.xd [("value", vk)]) := (upd_ne nda).trans upd_same
      refine ⟨_, rfl, .inr ⟨a, CL, dd, _, .ref CL, .ref CL, true, rfl, ea, ed, ec.1, .own CL, T.tl.tm.te.own CL (by simp), ?_⟩⟩
      refine ⟨_, rfl, .inr ⟨a, CL, dd, _, .ref CK, .ref CK, false, rfl, ea, ed, ec.1, .own CK, T.tl.tm.te.other.1, ?_⟩⟩
      refine ⟨(show 2 ≤ sizeLine by decide), fun l3 n3 => ?_⟩
      refine ⟨_, rfl, rfl, _, rfl, iteF ?_⟩
      refine ⟨_, rfl, a, CL, dd, _, vk, rfl, same_new n3 _ _ ea, ec.2.1, ec.2.2, same_new n3 _ _ ed, by simp [List.lookup], ?_⟩
      refine r_sized (hk.same (s3.trans (same_new n3)) _) sz hu' ?_
      refine ⟨(show 2 ≤ sizeLine by decide), fun t nt => ?_⟩
      exact q t l3 _ ((s3.trans (same_new n3)).trans (same_new nt)) upd_same (same_new nt _ _ upd_same)
    · refine ⟨vk, vn, _, dn, rfl, hk, hn, ok, .inr ⟨ds, rfl, F, .inl ⟨nz, fun H1 s1 dd hdd => ?_⟩⟩⟩
      have ec := T.tl.tm.te.ec CK (by simp)
      refine ⟨true, T.tl.tm.te.exm CK (by simp), fun _ a na => ?_, fun z => nomatch z⟩
      refine ⟨_, rfl, ?_⟩
      have nda : dd ≠ a := ne_of_none upd_same na
      have s2 : Same H (upd H1 dd (.xd [("value", vn)])) := s1.trans (same_new hdd)
      have s3 : Same H (upd (upd H1 dd (.xd [("value", vn)])) a (ExK (.ref CK) (some dd) a)) := s2.trans (same_new na)
      have ea : (upd (upd H1 dd (.xd [("value", vn)])) a (ExK (.ref CK) (some dd) a)) a = some (ExK (.ref CK) (some dd) a) := upd_same
      have ed : (upd (upd H1 dd (.xd [("value", vn)])) a (ExK (.ref CK) (some dd) a)) dd = some (.xd [("value", vn)]) := (upd_ne nda).trans upd_same
      refine ⟨_, rfl, .inr ⟨a, CK, dd, _, .ref CL, .ref CL, false, rfl, ea, ed, ec.1, .own CL, T.tl.tm.te.other.2, ?_⟩⟩
      refine ⟨_, rfl, .inr ⟨a, CK, dd, _, .ref CK, .ref CK, true, rfl, ea, ed, ec.1, .own CK, T.tl.tm.te.own CK (by simp), ?_⟩⟩
      refine ⟨(show 2 ≤ sizeLine by decide), fun l3 n3 => ?_⟩
      refine ⟨_, rfl, rfl, _, rfl, iteF ?_⟩
      refine ⟨_, rfl, a, CK, dd, _, vn, rfl, same_new n3 _ _ ea, ec.2.1, ec.2.2, same_new n3 _ _ ed, by simp [List.lookup], ?_⟩
      refine r_sized (hn.same (s3.trans (same_new n3)) _) sz hu' ?_
      refine ⟨(show 2 ≤ sizeLine by decide), fun t nt => ?_⟩
      exact q t l3 _ ((s3.trans (same_new n3)).trans (same_new nt)) upd_same (same_new nt _ _ upd_same)
  · refine ⟨_, rfl, rfl, _, rfl, iteF ?_⟩
    refine ⟨_, rfl, _, rfl, ?_⟩
    rcases c with ⟨e, sz, q⟩ | ⟨ds, rfl, F, nz, sz, q⟩
    · refine ⟨vk, vn, dk, dn, rfl, hk, hn, ok, .inl ⟨e, fun H1 s1 dd hdd => ?_⟩⟩
      have ec := T.tl.tm.te.ec CL (by simp)
      refine ⟨true, T.tl.tm.te.exm CL (by simp), fun _ a na => ?_, fun z => nomatch z⟩
      refine ⟨_, rfl, ?_⟩
      have nda : dd ≠ a := ne_of_none upd_same na
      have s2 : Same H (upd H1 dd (.xd [("value", vk)])) := s1.trans (same_new hdd)
      have s3 : Same H (upd (upd H1 dd (.xd [("value", vk)])) a (ExK (.ref CL) (some dd) a)) := s2.trans (same_new na)
      have ea : (upd (upd H1 dd (.xd [("value", vk)])) a (ExK (.ref CL) (some dd) a)) a = some (ExK (.ref CL) (some dd) a) := upd_same
      have ed : (upd (upd H1 dd (.xd [("value", vk)])) a (ExK (.ref CL) (some dd) a)) dd = some (.xd [("value", vk)]) := (upd_ne nda).trans upd_same
      refine ⟨_, rfl, .inr ⟨a, CL, dd, _, .ref CL, .ref CL, true, rfl, ea, ed, ec.1, .own CL, T.tl.tm.te.own CL (by simp), ?_⟩⟩
      refine ⟨_, rfl, .inr ⟨a, CL, dd, _, .ref CK, .ref CK, false, rfl, ea, ed, ec.1, .own CK, T.tl.tm.te.other.1, ?_⟩⟩
      refine ⟨(show 2 ≤ sizeLine by decide), fun l3 n3 => ?_⟩
      refine ⟨_, rfl, rfl, _, rfl, iteF ?_⟩
      refine ⟨_, rfl, a, CL, dd, _, vk, rfl, same_new n3 _ _ ea, ec.2.1, ec.2.2, same_new n3 _ _ ed, by simp [List.lookup], ?_⟩
      refine r_sized (hk.same (s3.trans (same_new n3)) _) sz hu' ?_
      refine ⟨(show 2 ≤ sizeLine by decide), fun t nt => ?_⟩
      exact q t l3 _ ((s3.trans (same_new n3)).trans (same_new nt)) upd_same (same_new nt _ _ upd_same)
    · refine ⟨vk, vn, _, dn, rfl, hk, hn, ok, .inr ⟨ds, rfl, F, .inl ⟨nz, fun H1 s1 dd hdd => ?_⟩⟩⟩
      have ec := T.tl.tm.te.ec CK (by simp)
      refine ⟨true, T.tl.tm.te.exm CK (by simp), fun _ a na => ?_, fun z => nomatch z⟩
      refine ⟨_, rfl, ?_⟩
      have nda : dd ≠ a := ne_of_none upd_same na
      have s2 : Same H (upd H1 dd (.xd [("value", vn)])) := s1.trans (same_new hdd)
      have s3 : Same H (upd (upd H1 dd (.xd [("value", vn)])) a (ExK (.ref CK) (some dd) a)) := s2.trans (same_new na)
      have ea : (upd (upd H1 dd (.xd [("value", vn)])) a (ExK (.ref CK) (some dd) a)) a = some (ExK (.ref CK) (some dd) a) := upd_same
      have ed : (upd (upd H1 dd (.xd [("value", vn)])) a (ExK (.ref CK) (some dd) a)) dd = some (.xd [("value", vn)]) := (upd_ne nda).trans upd_same
      refine ⟨_, rfl, .inr ⟨a, CK, dd, _, .ref CL, .ref CL, false, rfl, ea, ed, ec.1, .own CL, T.tl.tm.te.other.2, ?_⟩⟩
      refine ⟨_, rfl, .inr ⟨a, CK, dd, _, .ref CK, .ref CK, true, rfl, ea, ed, ec.1, .own CK, T.tl.tm.te.own CK (by simp), ?_⟩⟩
      refine ⟨(show 2 ≤ sizeLine by decide), fun l3 n3 => ?_⟩
      refine ⟨_, rfl, rfl, _, rfl, iteF ?_⟩
      refine ⟨_, rfl, a, CK, dd, _, vn, rfl, same_new n3 _ _ ea, ec.2.1, ec.2.2, same_new n3 _ _ ed, by simp [List.lookup], ?_⟩
      refine r_sized (hn.same (s3.trans (same_new n3)) _) sz hu' ?_
      refine ⟨(show 2 ≤ sizeLine by decide), fun t nt => ?_⟩
      exact q t l3 _ ((s3.trans (same_new n3)).trans (same_new nt)) upd_same (same_new nt _ _ upd_same)
end
end Cb
set_option Elab.async false
set_option linter.all false
set_option maxRecDepth 100000
set_option maxHeartbeats 8000000
namespace Cb
open PySem PySem.Spec PyProof.Rows L2 ExS
abbrev s_l_kinds_right : Stmt := topS 40
abbrev NR : List Str := ["_law_kinds", "_law_sort", "_law_name", "_law_makers", "_law_told", "_law_come_to_here", "_law_due", "_law_item", "_law_maker", "_law_parts"]
theorem sc_l_kinds_right : FnScope NR ["_law_kinds"] (defScope s_l_kinds_right) := ⟨rfl, rfl, rfl, by decide +kernel, rfl, by decide +kernel, by decide +kernel⟩
/-! ### what is drawn, as rows -/
def mkrow (c : Ch) : Row := (c.1, mk1 c.1 c.2.1 c.2.2)
theorem ch_isCh (c : Ch) : isCh (ch c) = true := isCh_choice
theorem step_isCh (w : List Str) : isCh (stepD w) = false := isCh_calls
theorem drawn_filter (L : List Ch) (w : List Str) : (kd L w).filter isCh = L.map ch := by
  unfold kd
  rw [List.filter_append, List.filter_cons_of_neg (by rw [step_isCh]; decide), List.filter_nil, List.append_nil]
  exact List.filter_eq_self.mpr fun d hd => by
    obtain ⟨c, _, rfl⟩ := List.mem_map.mp hd
    exact ch_isCh c
theorem drawn_rows (L : List Ch) (w : List Str) : rowsOf (kd L w) = L.map mkrow := by
  unfold rowsOf
  rw [drawn_filter, List.map_map]
  rfl
theorem drawn_names (L : List Ch) (w : List Str) : nmsOf (rowsOf (kd L w)) = L.map (·.1) := by
  unfold nmsOf
  rw [drawn_rows, List.map_map]
  rfl
theorem drawn_F {L : List Ch} {w : List Str} (D : Drawn L w) : Fine (kd L w) := isKinds_iff.mp (drawn_fine D)
theorem three_nfs : ∀ n ∈ three, n ∉ nfs := by decide +kernel
theorem partsIn_mk1 (c : Ch) : partsIn (mk1 c.1 c.2.1 c.2.2) = c.2.1 ++ c.2.2.flatten := ch_kinds c
theorem Drawn.lawful {L : List Ch} {w : List Str} (D : Drawn L w) : Lawful (rowsOf (kd L w)) := by
  refine ⟨uniq_of (drawn_F D).rnodup, ?_, ?_⟩
  · intro n ms hn p hp
    rw [drawn_rows] at hn
    obtain ⟨c, hc, e⟩ := List.mem_map.mp hn
    obtain ⟨rfl, rfl⟩ := Prod.mk.inj e
    rw [partsIn_mk1] at hp
    obtain ⟨h1, h2, h3⟩ := D.ok c hc
    have hp2 : p ∈ evry (L.map (·.1)) := by
      rcases List.mem_append.mp hp with hp | hp
      · rcases h1 with h1 | h1
        · rw [h1] at hp
          rw [List.mem_singleton.mp hp]
          exact List.mem_append_left _ (by decide)
        · rw [h1] at hp
          cases hp
      · obtain ⟨zs, hz, hp⟩ := List.mem_flatten.mp hp
        exact (h3 zs hz).2 p hp
    rw [drawn_names]
    exact List.mem_append.mp hp2
  · intro n hn
    rw [drawn_names] at hn
    exact three_nfs n (D.three n hn)
theorem fit_ms {L : List Ch} {w : List Str} (D : Drawn L w) {c : Ch} (hc : c ∈ L) : fit [9, 2, 5, 1] (.list (mk1 c.1 c.2.1 c.2.2)) = true := by
  have h := D.fits (ch c) (List.mem_append_left _ (List.mem_map.mpr ⟨c, hc, rfl⟩))
  unfold ch at h
  rw [show W5 = 4 :: [9, 2, 5, 1] from rfl, fit_tup] at h
  have h2 := (Bool.and_eq_true_iff.mp h).2
  exact List.all_eq_true.mp h2 (.list (mk1 c.1 c.2.1 c.2.2)) (by simp)
theorem sized_ws {d : PyData} {ws : List Nat} (h : fit ws d = true) (h1 : ∀ w ∈ ws, w < 1000) (h2 : ws.length ≤ 60) (h3 : bulk ws ≤ 2 ^ 20) : Sized d := .inr ⟨ws, fits_of ws h1 d h, h2, h3⟩
theorem sized_ms {L : List Ch} {w : List Str} (D : Drawn L w) {c : Ch} (hc : c ∈ L) : Sized (.list (mk1 c.1 c.2.1 c.2.2)) := sized_ws (fit_ms D hc) (by decide) (by decide) (by decide)
theorem good_ms {L : List Ch} {w : List Str} (D : Drawn L w) {c : Ch} (hc : c ∈ L) : OKd (.list (mk1 c.1 c.2.1 c.2.2)) := ((fits_of _ (by decide) _ (fit_ms D hc)).ok (by decide))
theorem rlist_mem {b : Str → Bool} {rows : List Row} {z : Str} (h : z ∈ rlist b rows) : ∃ r ∈ rows, z ∈ r.2.map nameOf := by
  unfold rlist at h
  obtain ⟨l, hl, hz⟩ := List.mem_flatten.mp h
  obtain ⟨r, hr, rfl⟩ := List.mem_map.mp hl
  split at hz
  · exact ⟨r, hr, hz⟩
  · cases hz
theorem rlist_app {b : Str → Bool} (r1 r2 : List Row) : rlist b (r1 ++ r2) = rlist b r1 ++ rlist b r2 := by
  unfold rlist
  rw [List.map_append, List.flatten_append]
theorem rows_small {L : List Ch} {w : List Str} (D : Drawn L w) : ∀ r ∈ rowsOf (kd L w), r.2.length ≤ 8 := by
  intro r hr
  rw [drawn_rows] at hr
  obtain ⟨c, hc, rfl⟩ := List.mem_map.mp hr
  show (mk1 c.1 c.2.1 c.2.2).length ≤ 8
  rw [mk1_len]
  have := (D.ok c hc).2.1
  omega
theorem fit_rl {L : List Ch} {w : List Str} (D : Drawn L w) (b : Str → Bool) : fit [100] (.list ((rlist b (rowsOf (kd L w))).map .str)) = true := by
  refine fitL ?_ ?_
  · rw [List.length_map]
    have h1 := rlist_len (b := b) (rows_small D)
    have h2 := rowsOf_len (kd L w)
    have h3 := (drawn_F D).len
    omega
  · intro d hd
    obtain ⟨z, hz, rfl⟩ := List.mem_map.mp hd
    obtain ⟨r, hr, hz⟩ := rlist_mem hz
    rw [drawn_rows] at hr
    obtain ⟨c, hc, rfl⟩ := List.mem_map.mp hr
    obtain ⟨m, hm, rfl⟩ := List.mem_map.mp hz
    have h := fit_ms D hc
    rw [fit_list] at h
    have h2 := List.all_eq_true.mp (Bool.and_eq_true_iff.mp h).2 m hm
    have hf : declForm (ch c) = true := (drawn_F D).form _ (List.mem_append_left _ (List.mem_map.mpr ⟨c, hc, rfl⟩))
    have im : isMaker m = true := by
      rcases declForm_cases hf with ⟨n, ms, e, _, _, al⟩ | ⟨n, ws, a, e, _⟩
      · unfold ch at e
        simp only [PyData.tuple.injEq, List.cons.injEq, PyData.list.injEq, PyData.str.injEq] at e
        obtain ⟨_, _, e3, _⟩ := e
        rw [← e3] at al
        exact List.all_eq_true.mp al m hm
      · unfold ch at e
        simp at e
    obtain ⟨z, ks, rfl, _⟩ := isMaker_tup im
    rw [fit_tup] at h2
    have h3 := List.all_eq_true.mp (Bool.and_eq_true_iff.mp h2).2 (.str z) (by simp)
    show fit [] (.str z) = true
    rw [fit_str] at h3 ⊢
    exact h3
theorem neN {x : V} {A B : Prop} (b : B) : if (!decide (x = x)) = true then A else B := by
  rw [decide_eq_true rfl]
  exact iteF b
theorem eqv_ok {d : PyData} (h : OKd d) : PyData.eqv d d = true := SeqAt.eqv_refl d (good_can d h.good)
end Cb
set_option Elab.async false
set_option linter.all false
set_option maxRecDepth 100000
set_option maxHeartbeats 16000000
namespace Cb
open PySem PySem.Spec PyProof.Rows L2 ExS
structure TKr (P : Program) (K : PySem.W.Frag) (w : World) (mg : Str → Option Value) (CL CK CB : Addr) : Prop where
  tc : TCa P K w mg CL CK CB
  d_l_kinds_right : Has K mg "_law_kinds_right" s_l_kinds_right ["_law_kinds"]
theorem neD {d : PyData} {A B : Prop} (h : OKd d) (b : B) : if (!PyData.eqv d d) = true then A else B := by
  rw [eqv_ok h]
  exact iteF b
theorem dp_ok {K : PySem.W.Frag} {H : Hp} {v : V} {d : PyData} (h : DT H v d) (o : OKd d) : Dp K H v d := h.dp (good_plain d o.good)
theorem rowsOf_take (ds : List PyData) : ∀ i : Nat, ∀ {r : Row}, r ∈ rowsOf (ds.take i) → r ∈ rowsOf ds := by
  intro i r hr
  unfold rowsOf at hr ⊢
  obtain ⟨d, hd, e⟩ := List.mem_map.mp hr
  obtain ⟨h1, h2⟩ := List.mem_filter.mp hd
  exact List.mem_map.mpr ⟨d, List.mem_filter.mpr ⟨List.mem_of_mem_take h1, h2⟩, e⟩
section
variable {P : Program} {w : World} {K : PySem.W.Frag} {mg : Str → Option Value} {base : Heap} {CL CK CB : Addr}
def sp_kinds_right : Sp := fun vs H Q _ => ∃ (kp : Addr) (xs : List V) (L : List Ch) (wn : List Str), vs = [.ref kp] ∧ H kp = some (.lst xs) ∧ DTs H xs (kd L wn) ∧ Drawn L wn ∧ ∀ H', Same H H' → Q (.bl true) H'
/-- asked rightly -/
theorem asked_ok {H : Hp} {E : XK} {ok : List PyData → Str → Prop} {kp : Addr} {xs : List V} {L : List Ch} {wn : List Str} {n : Str} (hk : H kp = some (.lst xs)) (hd : DTs H xs (kd L wn)) (D : Drawn L wn) (hn : n ∈ nmsOf (rowsOf (kd L wn))) (h : ok (kd L wn) n) :
    Asked CL CK [.ref kp, .str n] H E ok :=
  ⟨_, _, _, _, rfl, .lst hk hd, .str n, (sized6 D.fits6).ok, .inr ⟨_, rfl, drawn_F D, .inr ⟨n, rfl, hn, h⟩⟩⟩
set_option maxHeartbeats 16000000 in
theorem c_l_kinds_right (T : TKr P K w mg CL CK CB) : SaysG P w K mg base 11 "_law_kinds_right" ["_law_kinds"] sp_kinds_right := by
  refine saysG T.d_l_kinds_right sc_l_kinds_right (fun vs H Q E h => ?_) (fun f cdv A outer s H vs Q E ga hr h => ?_)
  · obtain ⟨_, _, _, _, rfl, _⟩ := h; rfl
  refine ⟨_, (pss_cons (ps_for PassesOwn.never rfl (pi_list (pe_lc (own := [("_law_item", 7)]) (g := gName 7) rfl sc_l_kinds_right.nd (pi_list (pv 0)) (blkOk_by (N := NR) (sc := defScope s_l_kinds_right) (own := [("_law_item", 7)]) (by decide +kernel)) (fun _ _ _ _ _ => pg_name (i := 7) sc_l_kinds_right.nd rfl (Or.inl rfl)) (fun _ _ _ _ _ => pts_one (pt_cmpR op_eq (pe_ix (r := rIxT K) ix_tup (pv 7) pe_int (fun _ _ => rfl)) pe_str (nomark _))) (fun _ _ _ _ _ => (pv 7)))) (pg_tup rfl (pgs_cons (pg_name (i := 1) sc_l_kinds_right.nd rfl (.inl rfl)) (pgs_cons (pg_name (i := 2) sc_l_kinds_right.nd rfl (.inl rfl)) (pgs_cons (pg_name (i := 3) sc_l_kinds_right.nd rfl (.inl rfl)) pgs_nil))))
        (pss_cons (ps_set (i := 4) sc_l_kinds_right.nd rfl (.inl rfl) (pe_s (c_constructors T.tc.tl.tm).toX.calm hr (pa_cons (pv 0) (pa_cons (pv 2) pa_nil))))
        (pss_cons (ps_if (PW.pt (pw_or (pt_cmpR op_ne (pe_callB (call_repr2 ga) (by rfl) T.tc.b_repr (by decide +kernel) (pa_cons (pv 4) pa_nil)) (pe_callB (call_repr2 ga) (by rfl) T.tc.b_repr (by decide +kernel) (pa_cons (pv 3) pa_nil)) (nomark _)) (pw_or1 (pt_cmpR (op_neD hr.units) (pe_k0 (c_constructors T.tc.tl.tm).calmK hr (pk_cons (pv 2) (pk_cons (pv 0) pk_nil))) (pv 3) (nomark _)))))
            (pss_one (ps_ret pe_bl))
            pss_nil)
        (pss_cons (ps_expr (pe_bm PySem.F.plainAttrs_list PySem.F.slot_list_append PySem.F.type_list_append mt_append (pe_ix ix_tup (pe_ix ix_list (pv 4) pe_int (fun _ _ => rfl)) pe_int (fun _ _ => rfl)) (pa_cons pe_str pa_nil)))
        (pss_cons (ps_expr (pe_bm PySem.F.plainAttrs_list PySem.F.slot_list_append PySem.F.type_list_append mt_append (pv 4) (pa_cons pe_non pa_nil)))
        (pss_cons (ps_set (i := 5) sc_l_kinds_right.nd rfl (.inl rfl) (pe_s (c_l_come_to T.tc.tl) hr (pa_cons (pv 0) (pa_cons (pv 2) pa_nil))))
        (pss_cons (ps_set (i := 6) sc_l_kinds_right.nd rfl (.inl rfl) (pe_lst pa_nil))
        (pss_cons (ps_for PassesOwn.never rfl (pi_list (pv 0)) (pg_name (i := 7) sc_l_kinds_right.nd rfl (.inl rfl))
            (pss_one (ps_if (pt_cmpR op_in_seq (pe_ix ix_tup (pv 7) pe_int (fun _ _ => rfl)) (pv 5) (by rfl))
                (pss_one (ps_set (i := 6) sc_l_kinds_right.nd rfl (.inl rfl) (pe_op op_cat (pv 6) (pe_lc (own := [("_law_maker", 8), ("_law_parts", 9)]) (g := gTup K 2 (gCons (gName 8) (gCons (gName 9) gNil))) (tt := tYes) rfl sc_l_kinds_right.nd (pi_list (pe_ix ix_tup (pv 7) pe_int (fun _ _ => rfl))) (blkOk_by (N := NR) (sc := defScope s_l_kinds_right) (own := [("_law_maker", 8), ("_law_parts", 9)]) (by decide +kernel)) (fun _ _ _ _ _ => pg_tup rfl (pgs_cons (pg_name (i := 8) sc_l_kinds_right.nd rfl (.inl rfl)) (pgs_cons (pg_name (i := 9) sc_l_kinds_right.nd rfl (.inl rfl)) pgs_nil))) (fun _ _ _ _ _ => pts_nil) (fun _ _ _ _ _ => (pv 8))))))
                pss_nil)))
        (pss_one (ps_if (PW.pt (pw_or (pt_cmpR op_ne (pe_callB (call_repr2 ga) (by rfl) T.tc.b_repr (by decide +kernel) (pa_cons (pe_s (c_reached T.tc.tl.tm).toX.calm hr (pa_cons (pv 0) (pa_cons (pv 2) pa_nil))) pa_nil)) (pe_callB (call_repr2 ga) (by rfl) T.tc.b_repr (by decide +kernel) (pa_cons (pv 6) pa_nil)) (nomark _)) (pw_or (pt_cmpR (op_neD hr.units) (pe_k0 (c_reached T.tc.tl.tm).calmK hr (pk_cons (pv 2) (pk_cons (pv 0) pk_nil))) (pv 6) (nomark _)) (pw_or1 (pt_cmpR (op_neD hr.units) (pe_s (c_constructors T.tc.tl.tm).toX.calm hr (pa_cons (pv 0) (pa_cons (pv 2) pa_nil))) (pv 3) (nomark _))))))
            (pss_one (ps_ret pe_bl))
            pss_nil))))))))))
    (pss_one (ps_ret pe_bl))), ?_⟩
  obtain ⟨kp, xs, L, wn, rfl, hk, hds, D, q⟩ := h
  have hu := hr.un
  have hu' : (A.deeper (envOfC "_law_kinds_right" (defScope s_l_kinds_right) s.heap.objs.size f cdv)).units + 200 < cLine := by omega
  have F := drawn_F D
  have lx := hds.length
  have l12 := F.len
  refine ⟨_, rfl, kp, rfl, ⟨_, SqL.of hk⟩, fun C hC => ?_⟩
  refine lc_it (walk_list (K := K) (a := kp) (xs := xs)) (fun i H' => Same H H' ∧ ∃ ys, H' C = some (.lst ys) ∧ DTs H ys (((kd L wn).take i).filter isCh)) ⟨same_new hC, [], upd_same, .nil⟩ (fun i H' _ y => SqL.of (y.1 _ _ hk)) ?_ ?_
  · rintro i x H2 H3 hi ⟨s2, ys, hy, dy⟩ ⟨rfl, hx⟩
    have hdi : (kd L wn)[i]? = some ((kd L wn)[i]'(by omega)) := List.getElem?_eq_getElem (by omega)
    have hdt := hds.get hx hdi
    have df := F.form _ (List.getElem_mem (h := by omega) : (kd L wn)[i]'(by omega) ∈ kd L wn)
    have ef := filter_take (f := isCh) hdi
    rcases decl_dt df hdt with ⟨pt, n, ml, mv, ms, ed, rfl, hpt, hml, hmv, l8, al⟩ | ⟨pt, n, kl, a', ks, ed, rfl, hpt⟩
    · refine ⟨rfl, ?_⟩
      refine ⟨_, rfl, pt, _, 0, _, rfl, rfl, SqT.of (s2 _ _ hpt), rfl, rfl, _, rfl, ifY rfl ?_⟩
      refine ⟨_, rfl, ys, hy, ?_, ?_, _, upd_same, ?_⟩
      · have := dy.length
        have h3 := List.length_filter_le isCh ((kd L wn).take i)
        rw [List.length_take] at h3
        exact small1000 (by omega)
      · intro b o e
        rw [upd_ne (ne_of_none e hC)]
        exact s2 _ _ e
      · rw [ef, ed, if_pos isCh_choice]
        exact dy.snoc (ed ▸ hdt)
    · refine ⟨rfl, ?_⟩
      refine ⟨_, rfl, pt, _, 0, _, rfl, rfl, SqT.of (s2 _ _ hpt), rfl, rfl, _, rfl, ifN (by decide +kernel) ?_⟩
      refine ⟨s2, ys, hy, ?_⟩
      rw [ef, ed, if_neg (by rw [isCh_calls]; decide), List.append_nil]
      exact dy
  · rintro H2 ⟨s2, ys, hy, dy⟩
    rw [lx, List.take_length, drawn_filter] at dy
    have ly := dy.length
    rw [List.length_map] at ly
    refine ⟨C, rfl, ⟨_, SqL.of hy⟩, for_list (xs := ys) (fun i σ H' => (∃ x1 x2 x3 x4 x5 x6 x7 : Option V, σ = [some (.ref kp), x1, x2, x3, x4, x5, x6, x7, none, none]) ∧ Same H2 H') ⟨⟨_, _, _, _, _, _, _, rfl⟩, Same.refl _⟩ (fun i σ H' _ z => SqL.of (z.2 _ _ hy)) ?_ ?_⟩
    · rintro i x σ H3 hx ⟨⟨x1, x2, x3, x4, x5, x6, x7, rfl⟩, s3⟩
      have hi := (List.getElem?_eq_some_iff.mp hx).1
      obtain ⟨c, hc⟩ : ∃ c, L[i]? = some c := ⟨L[i]'(by omega), List.getElem?_eq_getElem (by omega)⟩
      have hcm : c ∈ L := List.mem_of_getElem? hc
      have hdt := dy.get hx (by rw [List.getElem?_map, hc]; rfl)
      have s13 := s2.trans s3
      have okm := good_ms D hcm
      have szm := sized_ms D hcm
      have hrow : (c.1, mk1 c.1 c.2.1 c.2.2) ∈ rowsOf (kd L wn) := by
        rw [drawn_rows]
        exact List.mem_map.mpr ⟨c, hcm, rfl⟩
      have hnm : c.1 ∈ nmsOf (rowsOf (kd L wn)) := List.mem_map.mpr ⟨_, hrow, rfl⟩
      have uq := uniq_of F.rnodup
      rcases decl_dt (F.form _ (List.mem_append_left _ (List.mem_map.mpr ⟨c, hcm, rfl⟩))) hdt with ⟨pt, n, ml, mv, ms, ed, rfl, hpt, hml, hmv, l8, al⟩ | ⟨pt, n, kl, a', ks, ed, rfl, hpt⟩
      · obtain ⟨rfl, ems⟩ : c.1 = n ∧ mk1 c.1 c.2.1 c.2.2 = ms := by
          unfold ch at ed
          simp only [PyData.tuple.injEq, List.cons.injEq, PyData.list.injEq, PyData.str.injEq] at ed
          exact ⟨ed.2.1, ed.2.2.1⟩
        rw [ems] at okm szm hrow
        have hms : ∃ z ks rest, ms = .tuple [.str z, .list ks] :: rest := ⟨_, _, _, ems.symm⟩
        clear ems ed
        have hkp : ∀ {H'}, Same H3 H' → H' kp = some (.lst xs) := fun s => s _ _ (s13 _ _ hk)
        have hkd : ∀ {H'}, Same H3 H' → DTs H' xs (kd L wn) := fun s => hds.same (s13.trans s) _
        have hmL : ∀ {H'}, Same H3 H' → DT H' (.ref ml) (.list ms) := fun s => .lst ((s13.trans s) _ _ hml) (hmv.same (s13.trans s) _)
        refine ⟨pt, _, rfl, SqT.of (s13 _ _ hpt), rfl, _, _, rfl, _, _, rfl, _, _, rfl, rfl, ?_⟩
        -- told
        refine ⟨_, rfl, _, rfl, asked_ok (hkp (Same.refl _)) (hkd (Same.refl _)) D hnm fun ms' hm' p acc H4 s4 np hp dacc => ?_⟩
        obtain rfl := uq _ _ _ hrow hm'
        have dT : DT H4 (.ref p) (.list ms) := .lst hp (dacc.same (fun b o e => onlyNew_to _ _ (hid_out e).2) _)
        refine ⟨_, rfl, r_sized dT szm hu' ?_⟩
        refine ⟨_, rfl, r_sized (hmL s4) szm hu' ⟨rfl, _, rfl, neN ?_⟩⟩
        refine ⟨_, rfl, _, rfl, asked_ok (hkp s4) (hkd s4) D hnm fun ms' hm' p2 acc2 H5 s5 np2 hp2 dacc2 => ?_⟩
        obtain rfl := uq _ _ _ hrow hm'
        have s45 := s4.trans s5
        have dT2 : DT H5 (.ref p2) (.list ms) := .lst hp2 (dacc2.same (fun b o e => onlyNew_to _ _ (hid_out e).2) _)
        refine ⟨_, rfl, _, _, dp_ok dT2 okm, dp_ok (hmL s45) okm, okm.shaped, okm.shaped, _, rfl, neD okm ?_⟩
        -- what was told is spoilt
        obtain ⟨z, ks, rest, rfl⟩ := hms
        cases dacc with
        | @cons v0 acc' _ _ a0 r0 =>
        cases a0 with
        | @tup t tx _ et rt =>
        cases rt with
        | cons hz0 rt =>
        cases rt with
        | cons hl0 rt =>
        cases rt with
        | nil =>
        cases hz0
        cases hl0 with
        | @lst l kv _ el rl =>
        obtain ⟨ntp, et⟩ := hid_out et
        obtain ⟨nlp, el⟩ := hid_out el
        obtain ⟨nt3, ht4⟩ := onlyNew_out et
        obtain ⟨nl3, hl4⟩ := onlyNew_out el
        have nlp : l ≠ p := by simpa using nlp
        have lkv : kv.length ≤ 4 := by
          have := rl.length
          have im : isMaker (.tuple [.str z, .list ks]) = true := List.all_eq_true.mp al _ (List.mem_cons_self ..)
          obtain ⟨_, ks', e', k4, _⟩ := isMaker_tup im
          simp only [PyData.tuple.injEq, List.cons.injEq, PyData.list.injEq, PyData.str.injEq] at e'
          rw [this, e'.2.1]
          exact k4
        have lacc : (V.ref t :: acc').length ≤ 8 := by
          have := r0.length
          simp only [List.length_cons] at this l8 ⊢
          omega
        refine ⟨_, rfl, p, _, 0, .ref t, rfl, rfl, SqL.of (s5 _ _ hp), atI_nat (xs := V.ref t :: acc') (j := 0) (v := .ref t) rfl, t, _, 1, _, rfl, rfl, SqT.of (s5 _ _ ht4), rfl, .inl ⟨rfl, _, SqL.of (s5 _ _ hl4)⟩, l, _, _, rfl, rfl, s5 _ _ hl4, small1000 (by omega), ?_⟩
        have hp6 : upd H5 l (.lst (kv ++ [.str "num"])) p = some (.lst (.ref t :: acc')) := (upd_ne nlp.symm).trans (s5 _ _ hp)
        refine ⟨_, rfl, .inl ⟨rfl, _, SqL.of hp6⟩, p, _, _, rfl, rfl, hp6, small1000 (by omega), ?_⟩
        have s37 : Same H3 (upd (upd H5 l (.lst (kv ++ [.str "num"]))) p (.lst (.ref t :: acc' ++ [.non]))) := fun b o e => by
          rw [upd_ne (ne_of_none e np), upd_ne (ne_of_none e nl3)]
          exact s45 _ _ e
        generalize upd (upd H5 l (.lst (kv ++ [.str "num"]))) p (.lst (.ref t :: acc' ++ [.non])) = H7 at s37 ⊢
        -- come to
        refine ⟨_, rfl, _, rfl, kp, c.1, xs, kd L wn, rfl, hkp s37, hkd s37, F, D.lawful, hnm, fun Lz zs H8 s8 hLz hzs => ?_⟩
        have s38 := s37.trans s8
        refine ⟨(show 0 ≤ sizeLine by decide), fun du ndu => ?_⟩
        have s39 : Same H3 (upd H8 du (.lst [])) := s38.trans (same_new ndu)
        have hLz9 : upd H8 du (.lst []) Lz = some (.lst (zs.map V.str)) := same_new ndu _ _ hLz
        have hdu : upd H8 du (.lst []) du = some (.lst []) := upd_same
        generalize upd H8 du (.lst []) = H9 at s39 hLz9 hdu ⊢
        have b0 : ∀ {z}, z ∈ zs → z ∈ nmsOf (rowsOf (kd L wn)) := fun h => ((hzs _).mp h).in_ hnm
        refine ⟨_, rfl, kp, rfl, ⟨_, SqL.of (hkp s39)⟩, for_list (xs := xs) (fun i σ H' => (∃ (du : Addr) (x7 : Option V), σ = [some (.ref kp), some (.str "choice"), some (.str c.1), some (.ref ml), some (.ref p), some (.ref Lz), some (.ref du), x7, none, none] ∧ H' du = some (.lst ((rlist (fun z => decide (z ∈ zs)) (rowsOf ((kd L wn).take i))).map V.str))) ∧ Same H9 H')
          ⟨⟨du, _, rfl, hdu⟩, Same.refl _⟩ (fun i σ H' _ y => SqL.of (hkp (s39.trans y.2))) ?_ ?_⟩
        · rintro i x σ H10 hx ⟨⟨du, x7, rfl, hdu⟩, s10⟩
          have hi := (List.getElem?_eq_some_iff.mp hx).1
          have hdi : (kd L wn)[i]? = some ((kd L wn)[i]'(by omega)) := List.getElem?_eq_getElem (by omega)
          have hdt := hds.get hx hdi
          have dm : (kd L wn)[i]'(by omega) ∈ kd L wn := List.getElem_mem _
          have er := rowsOf_snoc ((kd L wn).take i) ((kd L wn)[i]'(by omega))
          have et' : (kd L wn).take (i + 1) = (kd L wn).take i ++ [(kd L wn)[i]'(by omega)] := by rw [List.take_add_one, hdi]; rfl
          rw [← et'] at er
          have s110 := s13.trans (s39.trans s10)
          generalize (kd L wn)[i]'(by omega) = d at hdt dm er
          rcases decl_dt (F.form _ dm) hdt with ⟨qt, n, mk, mv', ms, rfl, rfl, hqt, hmk, hmv', l8', al'⟩ | ⟨qt, n, kl, a', ks', rfl, rfl, hqt⟩
          · rw [if_pos isCh_choice] at er
            have lm' := hmv'.length
            refine ⟨_, rfl, qt, _, 1, _, rfl, rfl, SqT.of (s110 _ _ hqt), rfl, _, rfl, Lz, _, rfl, .inl (SqL.of (s10 _ _ hLz9)), rfl, flat_strs _, _, rfl, ?_⟩
            rw [if_neg (by decide), inV_str, er, rlist_app]
            have e1 : rlist (fun z => decide (z ∈ zs)) [(declName (.tuple [.str "choice", .str n, .list ms]), makersOf (.tuple [.str "choice", .str n, .list ms]))] = if decide (n ∈ zs) = true then ms.map nameOf else [] := by
              show (if decide (n ∈ zs) = true then ms.map nameOf else []) ++ [] = _
              rw [List.append_nil]
            rw [e1]
            by_cases hz : n ∈ zs
            · rw [decide_eq_true hz]
              refine iteT ?_
              refine ⟨_, rfl, _, rfl, qt, _, 2, _, rfl, rfl, SqT.of (s110 _ _ hqt), rfl, mk, rfl, ⟨_, SqL.of (s110 _ _ hmk)⟩, fun C3 nC3 => ?_⟩
              refine lc_it (walk_list (K := K) (a := mk) (xs := mv')) (fun j H' => Same H10 H' ∧ H' C3 = some (.lst (((ms.take j).map nameOf).map V.str))) ⟨same_new nC3, upd_same⟩ (fun j H' _ y => SqL.of (y.1 _ _ (s110 _ _ hmk))) ?_ ?_
              · rintro j x H11 H12 hj ⟨s11, h11⟩ ⟨rfl, hx2⟩
                have hmj : ms[j]? = some (ms[j]'(by omega)) := List.getElem?_eq_getElem (by omega)
                have im : isMaker (ms[j]'(by omega)) = true := List.all_eq_true.mp al' _ (List.getElem_mem _)
                obtain ⟨ut, y, pk, kv2, ks2, ed2, rfl, hut, _⟩ := maker_dt im (hmv'.get hx2 hmj)
                refine ⟨ut, _, rfl, SqT.of (s11 _ _ (s110 _ _ hut)), rfl, _, _, rfl, _, _, rfl, rfl, ?_⟩
                refine ⟨rfl, ?_⟩
                refine ⟨_, rfl, _, h11, small1000 (by rw [List.length_map, List.length_map, List.length_take]; omega), ?_, ?_⟩
                · intro b o e
                  rw [upd_ne (ne_of_none e nC3)]
                  exact s11 _ _ e
                · rw [upd_same, List.take_add_one, hmj, ed2]
                  simp only [List.map_append]
                  rfl
              · rintro H11 ⟨s11, h11⟩
                rw [lm', List.take_length] at h11
                have lr := rlist_len (b := fun z => decide (z ∈ zs)) (rows := rowsOf ((kd L wn).take i)) fun r hr => rows_small D r (rowsOf_take _ _ hr)
                have lr2 := rowsOf_len ((kd L wn).take i)
                rw [List.length_take] at lr2
                refine ⟨du, C3, _, _, rfl, rfl, s11 _ _ hdu, h11, ?_, fun R nR => ?_⟩
                · rw [List.length_map, List.length_map, List.length_map]
                  exact Nat.le_of_lt (small1000 (by omega))
                · refine ⟨⟨R, _, rfl, ?_⟩, s10.trans (s11.trans (same_new nR))⟩
                  rw [upd_same, if_pos rfl, List.map_append]
            · rw [decide_eq_false hz]
              refine iteF ⟨⟨du, _, rfl, ?_⟩, s10⟩
              rw [if_neg (by decide), List.append_nil]
              exact hdu
          · rw [if_neg (by rw [isCh_calls]; decide), List.append_nil] at er
            refine ⟨_, rfl, qt, _, 1, _, rfl, rfl, SqT.of (s110 _ _ hqt), rfl, _, rfl, Lz, _, rfl, .inl (SqL.of (s10 _ _ hLz9)), rfl, flat_strs _, _, rfl, ?_⟩
            have hn : n ∉ zs := fun h => by
              have h2 := b0 h
              rcases List.mem_append.mp dm with m | m
              · obtain ⟨c', _, e⟩ := List.mem_map.mp m
                unfold ch at e
                simp at e
              · have e := List.mem_singleton.mp m
                unfold stepD at e
                simp only [PyData.tuple.injEq, List.cons.injEq, PyData.list.injEq, PyData.str.injEq] at e
                rw [e.2.1] at h2
                exact D.lawful.nonfs _ h2 (by decide)
            rw [if_neg (by decide), inV_str, er, decide_eq_false hn]
            exact iteF ⟨⟨du, _, rfl, hdu⟩, s10⟩
        · rintro σ H10 ⟨⟨du, x7, rfl, hdu⟩, s10⟩
          rw [lx, List.take_length] at hdu
          have s310 := s39.trans s10
          have okr : OKd (.list ((rlist (fun z => decide (z ∈ zs)) (rowsOf (kd L wn))).map .str)) := (fits_of _ (by decide) _ (fit_rl D _)).ok (by decide)
          have szr : Sized (.list ((rlist (fun z => decide (z ∈ zs)) (rowsOf (kd L wn))).map .str)) := sized_ws (fit_rl D _) (by decide) (by decide) (by decide)
          have same_b : ∀ b : Str → Bool, (∀ y, b y = true ↔ Rch (rowsOf (kd L wn)) c.1 y) → b = fun z => decide (z ∈ zs) := fun b hb => by
            funext y
            rw [Bool.eq_iff_iff, hb, decide_eq_true_eq, hzs]
          have dD : ∀ {H'}, Same H10 H' → DT H' (.ref du) (.list ((rlist (fun z => decide (z ∈ zs)) (rowsOf (kd L wn))).map .str)) := fun s => .lst (s _ _ hdu) (strs_dt _)
          refine ⟨_, rfl, _, rfl, asked_ok (hkp s310) (hkd s310) D hnm fun p3 b3 H11 s11 np3 hb3 hp3 => ?_⟩
          rw [same_b b3 hb3] at hp3
          refine r_sized (.lst hp3 (strs_dt _)) szr hu' ?_
          refine ⟨_, rfl, r_sized (dD s11) szr hu' ⟨rfl, _, rfl, neN ?_⟩⟩
          refine ⟨_, rfl, _, rfl, asked_ok (hkp (s310.trans s11)) (hkd (s310.trans s11)) D hnm fun p4 b4 H12 s12 np4 hb4 hp4 => ?_⟩
          rw [same_b b4 hb4] at hp4
          have s1012 := s11.trans s12
          refine ⟨_, rfl, _, _, dp_ok (.lst hp4 (strs_dt _)) okr, dp_ok (dD s1012) okr, okr.shaped, okr.shaped, _, rfl, neD okr ?_⟩
          have s312 := s310.trans s1012
          refine ⟨_, rfl, _, rfl, asked_ok (hkp s312) (hkd s312) D hnm fun ms' hm' p5 acc5 H13 s13' np5 hp5 dacc5 => ?_⟩
          obtain rfl := uq _ _ _ hrow hm'
          have dT5 : DT H13 (.ref p5) (.list _) := .lst hp5 (dacc5.same (fun b o e => onlyNew_to _ _ (hid_out e).2) _)
          have s313 := s312.trans s13'
          refine ⟨_, rfl, _, _, dp_ok dT5 okm, dp_ok (hmL s313) okm, okm.shaped, okm.shaped, _, rfl, neD okm ?_⟩
          exact ⟨⟨_, _, _, _, _, _, _, rfl⟩, s3.trans s313⟩
      · exfalso
        unfold ch at ed
        simp at ed
    · rintro σ H3 ⟨⟨x1, x2, x3, x4, x5, x6, x7, rfl⟩, s3⟩
      exact q H3 (s2.trans s3)
end
end Cb
set_option Elab.async false
set_option linter.all false
set_option maxRecDepth 100000
set_option maxHeartbeats 16000000
namespace Cb
open PySem PySem.Spec PyProof.Rows L2 ExS
abbrev s_law : Stmt := topS 41
abbrev NL : List Str := ["_law_script", "_law_index", "_law_generator_here", "_law_kinds", "_law_kept", "_law_which", "_law_bad"]
theorem sc_law : FnScope NL ["_law_script"] (defScope s_law) := ⟨rfl, rfl, rfl, by decide +kernel, rfl, by decide +kernel, by decide +kernel⟩
structure TLaw (P : Program) (K : PySem.W.Frag) (w : World) (mg : Str → Option Value) (CL CK CB : Addr) : Prop where
  tr : TKr P K w mg CL CK CB
/-! ### what comes of a call, as data -/
def resD (b c : Bool) (d : PyData) : PyData := .tuple [.list [.bool b, .bool c], .str (PyData.shown d)]
theorem res_can {b c : Bool} {d : PyData} (h : good d = true) : (resD b c d).canLay0 = true := by
  unfold resD
  simp [PyData.canLay0, PyData.canLayAll0, strOk_shown h]
theorem res_shaped {b c : Bool} {d : PyData} (h : good d = true) : SeqAt.shaped (resD b c d) = true := by
  unfold SeqAt.shaped
  rw [res_can h, Bool.true_and]
  refine decide_eq_true ?_
  unfold resD
  simp [PyData.depth, PyData.depthAll]
theorem res_dp {K : PySem.W.Frag} {H : Hp} {b c : Bool} {d : PyData} {t l : Addr} (ht : H t = some (.tup [.ref l, .str (PyData.shown d)])) (hl : H l = some (.lst [.bl b, .bl c])) : Dp K H (.ref t) (resD b c d) :=
  DT.dp (by simp [resD, plain, plains]) (.tup ht (.cons (.lst hl (.cons (.bl _) (.cons (.bl _) .nil))) (.cons (.str _) .nil)))
theorem res_ne {b c : Bool} {d : PyData} {A B : Prop} (h : good d = true) (k : B) : if (!PyData.eqv (resD b c d) (resD b c d)) = true then A else B := by
  rw [SeqAt.eqv_refl _ (res_can h)]
  exact iteF k
/-! ### what is handed in wrongly -/
def bads1 (ds : List PyData) : List PyData := [.str "num", .str "flag", .str "step", .str "nowhere", .none, .int 7, .list [.str "list"], .str "", .list ds]
def bads2 (ds : List PyData) : List PyData := [.none, .int 7, .str "list", .tuple ds, .list [.none], .list (ds ++ ds.take 1), .list [.tuple [.str "choice", .str "list", .list []]]]
structure OKs (d : PyData) : Prop where
  sized : Sized d
  good : good d = true
theorem oks_of {d : PyData} {ws : List Nat} (h : fit ws d = true) (h1 : ∀ w ∈ ws, w < 1000) (h2 : ws.length ≤ 60) (h3 : bulk ws ≤ 2 ^ 20) : OKs d := ⟨sized_ws h h1 h2 h3, (fits_of ws h1 d h).good⟩
theorem three_bad : ∀ n ∈ three, n ∉ (["num", "flag", "step", "nowhere", ""] : List Str) := by decide +kernel
theorem bads1_ok {L : List Ch} {wn : List Str} (D : Drawn L wn) : ∀ d ∈ bads1 (kd L wn), OKs d ∧ ∀ z, d = .str z → z ∉ nmsOf (rowsOf (kd L wn)) := by
  have w6 := w6_ok
  intro d hd
  refine ⟨?_, ?_⟩
  · unfold bads1 at hd
    have f : fit W6 d = true := by
      simp only [List.mem_cons, List.not_mem_nil, or_false] at hd
      rcases hd with rfl | rfl | rfl | rfl | rfl | rfl | rfl | rfl | rfl
      · decide +kernel
      · decide +kernel
      · decide +kernel
      · decide +kernel
      · decide +kernel
      · decide +kernel
      · decide +kernel
      · decide +kernel
      · exact D.fits6
    exact oks_of f w6.1 w6.2.1 w6.2.2
  · rintro z rfl m
    rw [drawn_names] at m
    have h3 := three_bad z (D.three z m)
    unfold bads1 at hd
    simp only [List.mem_cons, List.not_mem_nil, or_false, PyData.str.injEq, reduceCtorEq, false_or] at hd
    refine h3 ?_
    simp only [List.mem_cons, List.not_mem_nil, or_false]
    rcases hd with h | h | h | h | h
    · exact .inl h
    · exact .inr (.inl h)
    · exact .inr (.inr (.inl h))
    · exact .inr (.inr (.inr (.inl h)))
    · exact .inr (.inr (.inr (.inr h)))
theorem bads2_ok {L : List Ch} {wn : List Str} (D : Drawn L wn) : ∀ d ∈ bads2 (kd L wn), OKs d ∧ isKinds d = false := by
  have w6 := w6_ok
  intro d hd
  have hl := bad_lasts D
  have fk := D.fits
  have l3 := D.len
  have len : (kd L wn).length ≤ 4 := by
    unfold kd
    rw [List.length_append, List.length_map]
    show L.length + 1 ≤ 4
    omega
  unfold bads2 at hd
  simp only [List.mem_cons, List.not_mem_nil, or_false] at hd
  rcases hd with rfl | rfl | rfl | rfl | rfl | rfl | rfl
  · exact ⟨oks_of (ws := W6) (by decide +kernel) w6.1 w6.2.1 w6.2.2, rfl⟩
  · exact ⟨oks_of (ws := W6) (by decide +kernel) w6.1 w6.2.1 w6.2.2, rfl⟩
  · exact ⟨oks_of (ws := W6) (by decide +kernel) w6.1 w6.2.1 w6.2.2, rfl⟩
  · exact ⟨oks_of (ws := W6) (fitT (by omega) fk) w6.1 w6.2.1 w6.2.2, rfl⟩
  · exact ⟨oks_of (ws := W6) (by decide +kernel) w6.1 w6.2.1 w6.2.2, by decide +kernel⟩
  · refine ⟨oks_of (ws := W6) (fitL ?_ ?_) w6.1 w6.2.1 w6.2.2, ?_⟩
    · rw [List.length_append, List.length_take]
      omega
    · intro x hx
      rcases List.mem_append.mp hx with hx | hx
      · exact fk x hx
      · exact fk x (List.mem_of_mem_take hx)
    · exact (hl _ (by unfold lasts; simp)).1
  · exact ⟨oks_of (ws := W6) (by decide +kernel) w6.1 w6.2.1 w6.2.2, by decide +kernel⟩
/-! ### the fixed ones -/
def fixL : List PyData := [.tuple [.str "choice", .str "list", .list [.tuple [.str "nil", .list []], .tuple [.str "cons", .list [.str "num", .str "list"]]]], .tuple [.str "choice", .str "rows", .list [.tuple [.str "none", .list []], .tuple [.str "more", .list [.str "list", .str "rows"]]]]]
theorem fix_F : Fine fixL := isKinds_iff.mp (by decide +kernel)
theorem fix_ok : OKd (.list fixL) := (fits_of W6 w6_ok.1 _ (by decide +kernel)).ok (by decide)
def fixM1 : List PyData := [.tuple [.str "nil", .list []], .tuple [.str "cons", .list [.str "num", .str "list"]]]
def fixM2 : List PyData := [.tuple [.str "none", .list []], .tuple [.str "more", .list [.str "list", .str "rows"]]]
theorem fix_rows : rowsOf fixL = ([(("list" : Str), fixM1), (("rows" : Str), fixM2)] : List Row) := by
  unfold rowsOf fixL
  rw [List.filter_cons_of_pos isCh_choice, List.filter_cons_of_pos isCh_choice]
  rfl
theorem fix_nx : Nx (rowsOf fixL) "rows" "list" := by
  rw [fix_rows]
  exact ⟨fixM2, by simp, by decide +kernel, by decide +kernel⟩
theorem fix_b {b : Str → Bool} {a : Str} (h : ∀ y, b y = true ↔ Rch (rowsOf fixL) a y) : (a = "rows" → rlist b (rowsOf fixL) = (["nil", "cons", "none", "more"] : List Str)) ∧ (a = "list" → rlist b (rowsOf fixL) = (["nil", "cons"] : List Str)) := by
  constructor
  · rintro rfl
    have h1 : b "rows" = true := (h _).mpr .refl
    have h2 : b "list" = true := (h _).mpr (.step .refl fix_nx)
    rw [fix_rows]
    show (if b "list" = true then fixM1.map nameOf else []) ++ ((if b "rows" = true then fixM2.map nameOf else []) ++ []) = _
    rw [h1, h2]
    decide +kernel
  · rintro rfl
    have h2 : b "list" = true := (h _).mpr .refl
    have h1 : b "rows" = false := by
      cases e : b "rows" with
      | false => rfl
      | true =>
        have r := (h _).mp e
        have := Rch.closed (S := fun z => z = ("list" : Str)) rfl (fun n p hn np => by
          subst hn
          rw [fix_rows] at np
          obtain ⟨ms, hm, hp, hn⟩ := np
          simp only [List.mem_cons, List.not_mem_nil, or_false, Prod.mk.injEq] at hm
          rcases hm with ⟨_, rfl⟩ | ⟨e, _⟩
          · have hp : p ∈ (["num", "list"] : List Str) := hp
            have hn : p ∈ (["list", "rows"] : List Str) := hn
            simp only [List.mem_cons, List.not_mem_nil, or_false] at hp hn
            rcases hp with rfl | rfl
            · rcases hn with e | e
              · exact absurd e (by decide +kernel)
              · exact absurd e (by decide +kernel)
            · rfl
          · exact absurd e (by decide +kernel)) r
        exact absurd this (by decide +kernel)
    rw [fix_rows]
    show (if b "list" = true then fixM1.map nameOf else []) ++ ((if b "rows" = true then fixM2.map nameOf else []) ++ []) = _
    rw [h1, h2]
    decide +kernel
end Cb
set_option Elab.async false
set_option linter.all false
set_option maxRecDepth 100000
set_option maxHeartbeats 16000000
namespace Cb
open PySem PySem.Spec PyProof.Rows L2 ExS
section
variable {P : Program} {w : World} {K : PySem.W.Frag} {mg : Str → Option Value} {base : Heap} {CL CK CB : Addr}
def sp_law (K : PySem.W.Frag) : Sp := fun vs H Q _ => ∃ (p : Addr) (ns : List Int), vs = [.ref p] ∧ SqL K H p (ns.map V.int) ∧ ∀ H', Q (.bl true) H'
theorem same_of {g : Addr} {H H' : Hp} (k : Keep [g] H H') (h : H g = none) : Same H H' := fun b o e => k b o (nin1 (ne_of_none e h)) e
theorem c_law (T : TLaw P K w mg CL CK CB) {fl : Addr} {fdl : FuncData} (F : Fun K "law" "law" s_law fl fdl) : FnG P w K mg base CX0 12 fl fdl ["_law_script"] (sp_law K) := by
  refine fnG F sc_law (fun vs H Q E h => ?_) (fun f cdv A outer s H vs Q E ga hr h => ?_)
  · obtain ⟨_, _, rfl, _⟩ := h; rfl
  refine ⟨_, (pss_cons (ps_for PassesOwn.never rfl (pi_range1 (by rfl) T.tr.tc.tl.td.tg.b_range (pa_cons pe_int pa_nil)) (pg_name (i := 1) sc_law.nd rfl (.inl rfl)) (pss_cons (ps_set (i := 2) sc_law.nd rfl (.inl rfl) (pe_s (c_l_generator T.tr.tc.tl.td.tg) hr (pa_cons (pv 0) (pa_cons (pv 1) pa_nil))))
    (pss_cons (ps_set (i := 3) sc_law.nd rfl (.inl rfl) (pe_s (c_l_drawn_kinds T.tr.tc.tl.td) hr (pa_cons (pv 2) pa_nil)))
    (pss_cons (ps_set (i := 4) sc_law.nd rfl (.inl rfl) (pe_callB (call_repr2 ga) (by rfl) T.tr.tc.b_repr (by decide +kernel) (pa_cons (pv 3) pa_nil)))
    (pss_cons (ps_if (PW.pt (pw_or (pt_not (pt_val (pe_g (c_l_kinds_right T.tr) ga hr (pa_cons (pv 3) pa_nil)))) (pw_or1 (pt_cmpR op_ne (pe_callB (call_repr2 ga) (by rfl) T.tr.tc.b_repr (by decide +kernel) (pa_cons (pv 3) pa_nil)) (pv 4) (nomark _)))))
        (pss_one (ps_ret pe_bl))
        pss_nil)
    (pss_one (ps_for PassesOwn.never rfl (pi_range1 (by rfl) T.tr.tc.tl.td.tg.b_range (pa_cons pe_int pa_nil)) (pg_name (i := 5) sc_law.nd rfl (.inl rfl)) (pss_cons (ps_for PassesOwn.never rfl (pi_list (pe_lst (pa_cons pe_str (pa_cons pe_str (pa_cons pe_str (pa_cons pe_str (pa_cons pe_non (pa_cons pe_int (pa_cons (pe_lst (pa_cons pe_str pa_nil)) (pa_cons pe_str (pa_cons (pv 3) pa_nil))))))))))) (pg_name (i := 6) sc_law.nd rfl (.inl rfl)) (pss_one (ps_if (pt_cmpR (op_neD hr.units) (pe_g (c_l_caught T.tr.tc) ga hr (pa_cons (pv 5) (pa_cons (pv 3) (pa_cons (pv 6) pa_nil)))) (pe_tup (pa_cons (pe_lst (pa_cons pe_bl (pa_cons pe_bl pa_nil))) (pa_cons (pe_callB (call_repr2 ga) (by rfl) T.tr.tc.b_repr (by decide +kernel) (pa_cons (pv 6) pa_nil)) pa_nil))) (nomark _))
        (pss_one (ps_ret pe_bl))
        pss_nil)))
    (pss_one (ps_for PassesOwn.never rfl (pi_list (pe_lst (pa_cons pe_non (pa_cons pe_int (pa_cons pe_str (pa_cons (pe_callTy call_tuple_of (by rfl) T.tr.tc.tl.tm.tk.tw.b_tuple (by decide +kernel) (pa_cons (pv 3) pa_nil)) (pa_cons (pe_lst (pa_cons pe_non pa_nil)) (pa_cons (pe_op op_cat (pv 3) (pe_slice sl_list (pv 3) po_none (po_some pe_int))) (pa_cons (pe_lst (pa_cons (pe_tup (pa_cons pe_str (pa_cons pe_str (pa_cons (pe_lst pa_nil) pa_nil)))) pa_nil)) pa_nil))))))))) (pg_name (i := 6) sc_law.nd rfl (.inl rfl)) (pss_one (ps_if (PW.pt (pw_or (pt_cmpR (op_neD hr.units) (pe_g (c_l_caught T.tr.tc) ga hr (pa_cons (pv 5) (pa_cons (pv 6) (pa_cons pe_non pa_nil)))) (pe_tup (pa_cons (pe_lst (pa_cons pe_bl (pa_cons pe_bl pa_nil))) (pa_cons (pe_callB (call_repr2 ga) (by rfl) T.tr.tc.b_repr (by decide +kernel) (pa_cons (pv 6) pa_nil)) pa_nil))) (nomark _)) (pw_or1 (pt_cmpR (op_neD hr.units) (pe_g (c_l_caught T.tr.tc) ga hr (pa_cons (pv 5) (pa_cons (pv 6) (pa_cons pe_str pa_nil)))) (pe_tup (pa_cons (pe_lst (pa_cons pe_bl (pa_cons pe_bl pa_nil))) (pa_cons (pe_callB (call_repr2 ga) (by rfl) T.tr.tc.b_repr (by decide +kernel) (pa_cons (pv 6) pa_nil)) pa_nil))) (nomark _)))))
        (pss_one (ps_ret pe_bl))
        pss_nil))))))))))))
    (pss_cons (ps_set (i := 3) sc_law.nd rfl (.inl rfl) (pe_lst (pa_cons (pe_tup (pa_cons pe_str (pa_cons pe_str (pa_cons (pe_lst (pa_cons (pe_tup (pa_cons pe_str (pa_cons (pe_lst pa_nil) pa_nil))) (pa_cons (pe_tup (pa_cons pe_str (pa_cons (pe_lst (pa_cons pe_str (pa_cons pe_str pa_nil))) pa_nil))) pa_nil))) pa_nil)))) (pa_cons (pe_tup (pa_cons pe_str (pa_cons pe_str (pa_cons (pe_lst (pa_cons (pe_tup (pa_cons pe_str (pa_cons (pe_lst pa_nil) pa_nil))) (pa_cons (pe_tup (pa_cons pe_str (pa_cons (pe_lst (pa_cons pe_str (pa_cons pe_str pa_nil))) pa_nil))) pa_nil))) pa_nil)))) pa_nil))))
    (pss_one (ps_ret (pe_and (pe_cmpR (op_eqD hr.units) (pe_s (c_reached T.tr.tc.tl.tm).toX.calm hr (pa_cons (pv 3) (pa_cons pe_str pa_nil))) (pe_lst (pa_cons pe_str (pa_cons pe_str (pa_cons pe_str (pa_cons pe_str pa_nil))))) (nomark _)) (pe_one (pe_cmpR (op_eqD hr.units) (pe_s (c_reached T.tr.tc.tl.tm).toX.calm hr (pa_cons (pv 3) (pa_cons pe_str pa_nil))) (pe_lst (pa_cons pe_str (pa_cons pe_str pa_nil))) (nomark _)))))))), ?_⟩
  obtain ⟨p, ns, rfl, hS, q⟩ := h
  have hu := hr.un
  have hu' : (A.deeper (envOfC "law" (defScope s_law) s.heap.objs.size f cdv)).units + 200 < cLine := by omega
  refine ⟨2, rfl, by decide, by decide, for_range (n := 2) (fun i σ H' => (∃ x1 x2 x3 x4 x5 x6 : Option V, σ = [some (.ref p), x1, x2, x3, x4, x5, x6]) ∧ Same H H') ⟨⟨none, none, none, none, none, none, rfl⟩, Same.refl _⟩ ?_ ?_⟩
  · rintro i σ H1 hi ⟨⟨x1, x2, x3, x4, x5, x6, rfl⟩, s1⟩
    refine ⟨_, rfl, _, rfl, p, ns, _, rfl, s1.seq hS, by omega, by omega, fun g a s0 H2 hg s2 hg2 => ?_⟩
    refine ⟨_, rfl, g, a, s0, _, rfl, hg2, by omega, by omega, fun kp xs L wn H3 D nkg nk2 hk dk k3 G3 => ?_⟩
    have s23 : Same H1 H3 := fun b o e => k3 b o (nin1 (ne_of_none e hg)) (s2 b o e)
    have dk0 : DTs H3 xs (kd L wn) := dk.same hid_same _
    have dkl : DT H3 (.ref kp) (.list (kd L wn)) := .lst hk dk0
    have zk : Sized (.list (kd L wn)) := sized6 D.fits6
    refine ⟨_, rfl, r_sized dkl zk hu' ?_⟩
    refine ⟨_, rfl, kp, xs, L, wn, rfl, hk, dk0, D, fun H4 s4 => ⟨_, rfl, iteF ?_⟩⟩
    refine ⟨_, rfl, r_sized (dkl.same s4 _) zk hu' ⟨_, rfl, rfl, _, rfl, neN ?_⟩⟩
    have lx := dk0.length
    have l12 := (drawn_F D).len
    refine ⟨2, rfl, by decide, by decide, for_range (n := 2) (fun j σ H' => (∃ x5 x6 : Option V, σ = [some (.ref p), some (.int (0 + (i : Int))), some (.ref g), some (.ref kp), some (.str (PyData.shown (.list (kd L wn)))), x5, x6]) ∧ Same H3 H') ⟨⟨_, _, rfl⟩, s4⟩ ?_ ?_⟩
    · rintro j σ H5 hj ⟨⟨x5, x6, rfl⟩, s5⟩
      have hwh : (0 + (j : Int) = 0 ∨ 0 + (j : Int) = 1) := by omega
      have hk5 := s5 _ _ hk
      have dk5 := dk0.same s5 _
      have F := drawn_F D
      -- the first row of wrong ones
      refine ⟨(show 1 ≤ sizeLine by decide), fun l1 n1 => ⟨_, rfl, (show 9 ≤ sizeLine by decide), fun lb nb => ?_⟩⟩
      have t1 : Same H5 _ := same_new (o := .lst [.str "list"]) n1
      have t2 := t1.trans (same_new (o := .lst [.str "num", .str "flag", .str "step", .str "nowhere", .non, .int 7, .ref l1, .str "", .ref kp]) nb)
      have db : DTs (upd (upd H5 l1 (.lst [.str "list"])) lb (.lst [.str "num", .str "flag", .str "step", .str "nowhere", .non, .int 7, .ref l1, .str "", .ref kp])) [.str "num", .str "flag", .str "step", .str "nowhere", .non, .int 7, .ref l1, .str "", .ref kp] (bads1 (kd L wn)) :=
        .cons (.str _) (.cons (.str _) (.cons (.str _) (.cons (.str _) (.cons .non (.cons (.int _) (.cons (.lst (same_new nb _ _ upd_same) (.cons (.str _) .nil)) (.cons (.str _) (.cons (.lst (t2 _ _ hk5) (dk5.same t2 _)) .nil))))))))
      have hb0 : (upd (upd H5 l1 (.lst [.str "list"])) lb (.lst [.str "num", .str "flag", .str "step", .str "nowhere", .non, .int 7, .ref l1, .str "", .ref kp])) lb = some (.lst [.str "num", .str "flag", .str "step", .str "nowhere", .non, .int 7, .ref l1, .str "", .ref kp]) := upd_same
      generalize upd (upd H5 l1 (.lst [.str "list"])) lb (.lst [.str "num", .str "flag", .str "step", .str "nowhere", .non, .int 7, .ref l1, .str "", .ref kp]) = H6 at t2 db hb0 ⊢
      generalize [V.str "num", .str "flag", .str "step", .str "nowhere", .non, .int 7, .ref l1, .str "", .ref kp] = bv at db hb0 ⊢
      refine ⟨lb, rfl, ⟨_, SqL.of hb0⟩, for_list (xs := bv) (fun m σ H' => (∃ x6 : Option V, σ = [some (.ref p), some (.int (0 + (i : Int))), some (.ref g), some (.ref kp), some (.str (PyData.shown (.list (kd L wn)))), some (.int (0 + (j : Int))), x6]) ∧ Same H6 H') ⟨⟨_, rfl⟩, Same.refl _⟩ (fun m σ H' _ z => SqL.of (z.2 _ _ hb0)) ?_ ?_⟩
      · rintro m x σ H7 hx ⟨⟨x6, rfl⟩, s7⟩
        have hm := (List.getElem?_eq_some_iff.mp hx).1
        have lb' := db.length
        obtain ⟨d, hd⟩ : ∃ d, (bads1 (kd L wn))[m]? = some d := ⟨(bads1 (kd L wn))[m]'(by omega), List.getElem?_eq_getElem (by omega)⟩
        have dx := (db.get hx hd).same s7 _
        obtain ⟨od, nz⟩ := bads1_ok D d (List.mem_of_getElem? hd)
        have s57 := t2.trans s7
        refine ⟨_, rfl, _, rfl, _, rfl, _, .ref kp, x, .list (kd L wn), d, rfl, hwh, .lst (s57 _ _ hk5) (dk5.same s57 _), dx, zk.ok, .inr ⟨_, rfl, F, nz, od.sized, fun t l H8 s8 ht hl => ?_⟩⟩
        refine ⟨(show 2 ≤ sizeLine by decide), fun l3 n3 => ?_⟩
        refine ⟨_, rfl, r_sized (dx.same (s8.trans (same_new n3)) _) od.sized hu' ?_⟩
        refine ⟨(show 2 ≤ sizeLine by decide), fun t4 n4 => ?_⟩
        refine ⟨_, _, res_dp (b := false) (c := true) (same_new n4 _ _ (same_new n3 _ _ ht)) (same_new n4 _ _ (same_new n3 _ _ hl)), res_dp (b := false) (c := true) upd_same (same_new n4 _ _ upd_same), res_shaped od.good, res_shaped od.good, _, rfl, res_ne od.good ?_⟩
        exact ⟨⟨_, rfl⟩, s7.trans (s8.trans ((same_new n3).trans (same_new n4)))⟩
      · rintro σ H7 ⟨⟨x6, rfl⟩, s7⟩
        clear db hb0 bv
        have s57 := t2.trans s7
        have hk7 := s57 _ _ hk5
        have dk7 := dk5.same s57 _
        -- the second row
        refine ⟨_, rfl, kp, xs, rfl, .inl ⟨SqL.of hk7, fun lt nt => ?_⟩⟩
        have a1 : Same H7 (upd H7 lt (.tup xs)) := same_new nt
        have e1 : upd H7 lt (.tup xs) lt = some (.tup xs) := upd_same
        generalize upd H7 lt (.tup xs) = Ha at a1 e1 ⊢
        refine ⟨(show 1 ≤ sizeLine by decide), fun l1 n1 => ?_⟩
        have a2 : Same Ha (upd Ha l1 (.lst [.non])) := same_new n1
        have e2 : upd Ha l1 (.lst [.non]) l1 = some (.lst [.non]) := upd_same
        generalize upd Ha l1 (.lst [.non]) = Hb at a2 e2 ⊢
        refine ⟨_, rfl, _, rfl, 1, rfl, kp, xs, rfl, SqL.of (a2 _ _ (a1 _ _ hk7)), fun ls ns => ?_⟩
        rw [show cutV xs none (some (1 : Int)) = xs.take 1 from cut_to (i := 1) (by have := (drawn_F D).len; have := D.len; rw [lx]; unfold kd; rw [List.length_append, List.length_map]; omega)]
        have a3 : Same Hb (upd Hb ls (.lst (xs.take 1))) := same_new ns
        have e3 : upd Hb ls (.lst (xs.take 1)) ls = some (.lst (xs.take 1)) := upd_same
        generalize upd Hb ls (.lst (xs.take 1)) = Hc at a3 e3 ⊢
        refine ⟨kp, ls, _, _, rfl, rfl, a3 _ _ (a2 _ _ (a1 _ _ hk7)), e3, (show xs.length + (xs.take 1).length ≤ sizeLine from Nat.le_of_lt (small1000 (by rw [List.length_take]; omega))), fun lc nc => ?_⟩
        have a4 : Same Hc (upd Hc lc (.lst (xs ++ xs.take 1))) := same_new nc
        have e4 : upd Hc lc (.lst (xs ++ xs.take 1)) lc = some (.lst (xs ++ xs.take 1)) := upd_same
        generalize upd Hc lc (.lst (xs ++ xs.take 1)) = Hd at a4 e4 ⊢
        refine ⟨(show 0 ≤ sizeLine by decide), fun le ne0 => ?_⟩
        have a5 : Same Hd (upd Hd le (.lst [])) := same_new ne0
        have e5 : upd Hd le (.lst []) le = some (.lst []) := upd_same
        generalize upd Hd le (.lst []) = He at a5 e5 ⊢
        refine ⟨(show 3 ≤ sizeLine by decide), fun tf nf => ?_⟩
        have a6 : Same He (upd He tf (.tup [.str "choice", .str "list", .ref le])) := same_new nf
        have e6 : upd He tf (.tup [.str "choice", .str "list", .ref le]) tf = some (.tup [.str "choice", .str "list", .ref le]) := upd_same
        generalize upd He tf (.tup [.str "choice", .str "list", .ref le]) = Hf at a6 e6 ⊢
        refine ⟨(show 1 ≤ sizeLine by decide), fun lg ng => ?_⟩
        have a7 : Same Hf (upd Hf lg (.lst [.ref tf])) := same_new ng
        have e7 : upd Hf lg (.lst [.ref tf]) lg = some (.lst [.ref tf]) := upd_same
        generalize upd Hf lg (.lst [.ref tf]) = Hg at a7 e7 ⊢
        refine ⟨(show 7 ≤ sizeLine by decide), fun lb nb => ?_⟩
        have a8 : Same Hg (upd Hg lb (.lst [.non, .int 7, .str "list", .ref lt, .ref l1, .ref lc, .ref lg])) := same_new nb
        have e8 : upd Hg lb (.lst [.non, .int 7, .str "list", .ref lt, .ref l1, .ref lc, .ref lg]) lb = some (.lst [.non, .int 7, .str "list", .ref lt, .ref l1, .ref lc, .ref lg]) := upd_same
        generalize upd Hg lb (.lst [.non, .int 7, .str "list", .ref lt, .ref l1, .ref lc, .ref lg]) = Hh at a8 e8 ⊢
        have b7 := a7.trans a8
        have b6 := a6.trans b7
        have b5 := a5.trans b6
        have b4 := a4.trans b5
        have b3 := a3.trans b4
        have b2 := a2.trans b3
        have b1 := a1.trans b2
        have dkh := dk7.same b1 _
        have db : DTs Hh [.non, .int 7, .str "list", .ref lt, .ref l1, .ref lc, .ref lg] (bads2 (kd L wn)) :=
          .cons .non (.cons (.int _) (.cons (.str _) (.cons (.tup (b2 _ _ e1) dkh) (.cons (.lst (b3 _ _ e2) (.cons .non .nil)) (.cons (.lst (b5 _ _ e4) (dkh.app (dkh.take 1))) (.cons (.lst (a8 _ _ e7) (.cons (.tup (b7 _ _ e6) (.cons (.str _) (.cons (.str _) (.cons (.lst (b6 _ _ e5) .nil) .nil)))) .nil)) .nil))))))
        generalize [V.non, .int 7, .str "list", .ref lt, .ref l1, .ref lc, .ref lg] = bv at db e8 ⊢
        refine ⟨lb, rfl, ⟨_, SqL.of e8⟩, for_list (xs := bv) (fun m σ H' => (∃ x6 : Option V, σ = [some (.ref p), some (.int (0 + (i : Int))), some (.ref g), some (.ref kp), some (.str (PyData.shown (.list (kd L wn)))), some (.int (0 + (j : Int))), x6]) ∧ Same Hh H') ⟨⟨_, rfl⟩, Same.refl _⟩ (fun m σ H' _ z => SqL.of (z.2 _ _ e8)) ?_ ?_⟩
        · rintro m x σ H8 hx ⟨⟨x6, rfl⟩, s8⟩
          have hm := (List.getElem?_eq_some_iff.mp hx).1
          have lb' := db.length
          obtain ⟨d, hd⟩ : ∃ d, (bads2 (kd L wn))[m]? = some d := ⟨(bads2 (kd L wn))[m]'(by omega), List.getElem?_eq_getElem (by omega)⟩
          have dx := (db.get hx hd).same s8 _
          obtain ⟨od, nk⟩ := bads2_ok D d (List.mem_of_getElem? hd)
          refine ⟨_, rfl, _, rfl, _, x, .non, d, .none, rfl, hwh, dx, .non, od.sized.ok, .inl ⟨nk, od.sized, fun t l H9 s9 ht hl => ?_⟩⟩
          refine ⟨(show 2 ≤ sizeLine by decide), fun l3 n3 => ?_⟩
          refine ⟨_, rfl, r_sized (dx.same (s9.trans (same_new n3)) _) od.sized hu' ?_⟩
          refine ⟨(show 2 ≤ sizeLine by decide), fun t4 n4 => ?_⟩
          refine ⟨_, _, res_dp (b := true) (c := false) (same_new n4 _ _ (same_new n3 _ _ ht)) (same_new n4 _ _ (same_new n3 _ _ hl)), res_dp (b := true) (c := false) upd_same (same_new n4 _ _ upd_same), res_shaped od.good, res_shaped od.good, _, rfl, res_ne od.good ?_⟩
          have s10 := s9.trans ((same_new n3).trans (same_new (o := .tup [.ref l3, .str (PyData.shown d)]) n4))
          generalize upd (upd H9 l3 (.lst [.bl true, .bl false])) t4 (.tup [.ref l3, .str (PyData.shown d)]) = H10 at s10 ⊢
          have dx2 := dx.same s10 _
          refine ⟨_, rfl, _, rfl, _, x, .str "list", d, .str "list", rfl, hwh, dx2, .str _, od.sized.ok, .inl ⟨nk, od.sized, fun t l H11 s11 ht hl => ?_⟩⟩
          refine ⟨(show 2 ≤ sizeLine by decide), fun l5 n5 => ?_⟩
          refine ⟨_, rfl, r_sized (dx2.same (s11.trans (same_new n5)) _) od.sized hu' ?_⟩
          refine ⟨(show 2 ≤ sizeLine by decide), fun t6 n6 => ?_⟩
          refine ⟨_, _, res_dp (b := true) (c := false) (same_new n6 _ _ (same_new n5 _ _ ht)) (same_new n6 _ _ (same_new n5 _ _ hl)), res_dp (b := true) (c := false) upd_same (same_new n6 _ _ upd_same), res_shaped od.good, res_shaped od.good, _, rfl, res_ne od.good ?_⟩
          exact ⟨⟨_, rfl⟩, s8.trans (s10.trans (s11.trans ((same_new n5).trans (same_new n6))))⟩
        · rintro σ H8 ⟨⟨x6, rfl⟩, s8⟩
          exact ⟨⟨_, _, rfl⟩, s5.trans (s57.trans (b1.trans s8))⟩
    · rintro σ H5 ⟨⟨x5, x6, rfl⟩, s5⟩
      exact ⟨⟨_, _, _, _, _, _, rfl⟩, s1.trans (s23.trans s5)⟩
  · rintro σ H1 ⟨⟨x1, x2, x3, x4, x5, x6, rfl⟩, s1⟩
    refine ⟨(show 0 ≤ sizeLine by decide), fun a1 b1 => ⟨(show 2 ≤ sizeLine by decide), fun a2 b2 => ⟨(show 2 ≤ sizeLine by decide), fun a3 b3 => ⟨(show 2 ≤ sizeLine by decide), fun a4 b4 => ⟨(show 2 ≤ sizeLine by decide), fun a5 b5 => ⟨(show 3 ≤ sizeLine by decide), fun a6 b6 => ?_⟩⟩⟩⟩⟩⟩
    have c6 : DT (upd (upd (upd (upd (upd (upd H1 a1 (.lst [])) a2 (.tup [.str "nil", .ref a1])) a3 (.lst [.str "num", .str "list"])) a4 (.tup [.str "cons", .ref a3])) a5 (.lst [.ref a2, .ref a4])) a6 (.tup [.str "choice", .str "list", .ref a5])) (.ref a6) (.tuple [.str "choice", .str "list", .list [.tuple [.str "nil", .list []], .tuple [.str "cons", .list [.str "num", .str "list"]]]]) := by
      have k5 := @same_new _ _ (.tup [.str "choice", .str "list", .ref a5]) b6
      have k4 := (@same_new _ _ (.lst [.ref a2, .ref a4]) b5).trans k5
      have k3 := (@same_new _ _ (.tup [.str "cons", .ref a3]) b4).trans k4
      have k2 := (@same_new _ _ (.lst [.str "num", .str "list"]) b3).trans k3
      have k1 := (@same_new _ _ (.tup [.str "nil", .ref a1]) b2).trans k2
      exact .tup upd_same (.cons (.str _) (.cons (.str _) (.cons (.lst (k5 _ _ upd_same) (.cons (.tup (k2 _ _ upd_same) (.cons (.str _) (.cons (.lst (k1 _ _ upd_same) .nil) .nil))) (.cons (.tup (k4 _ _ upd_same) (.cons (.str _) (.cons (.lst (k3 _ _ upd_same) (.cons (.str _) (.cons (.str _) .nil))) .nil))) .nil))) .nil)))
    generalize upd (upd (upd (upd (upd (upd H1 a1 (.lst [])) a2 (.tup [.str "nil", .ref a1])) a3 (.lst [.str "num", .str "list"])) a4 (.tup [.str "cons", .ref a3])) a5 (.lst [.ref a2, .ref a4])) a6 (.tup [.str "choice", .str "list", .ref a5]) = H2 at c6 ⊢
    refine ⟨(show 0 ≤ sizeLine by decide), fun d1 e1 => ⟨(show 2 ≤ sizeLine by decide), fun d2 e2 => ⟨(show 2 ≤ sizeLine by decide), fun d3 e3 => ⟨(show 2 ≤ sizeLine by decide), fun d4 e4 => ⟨(show 2 ≤ sizeLine by decide), fun d5 e5 => ⟨(show 3 ≤ sizeLine by decide), fun d6 e6 => ?_⟩⟩⟩⟩⟩⟩
    have f6 : DT (upd (upd (upd (upd (upd (upd H2 d1 (.lst [])) d2 (.tup [.str "none", .ref d1])) d3 (.lst [.str "list", .str "rows"])) d4 (.tup [.str "more", .ref d3])) d5 (.lst [.ref d2, .ref d4])) d6 (.tup [.str "choice", .str "rows", .ref d5])) (.ref d6) (.tuple [.str "choice", .str "rows", .list [.tuple [.str "none", .list []], .tuple [.str "more", .list [.str "list", .str "rows"]]]]) ∧ Same H2 (upd (upd (upd (upd (upd (upd H2 d1 (.lst [])) d2 (.tup [.str "none", .ref d1])) d3 (.lst [.str "list", .str "rows"])) d4 (.tup [.str "more", .ref d3])) d5 (.lst [.ref d2, .ref d4])) d6 (.tup [.str "choice", .str "rows", .ref d5])) := by
      have k5 := @same_new _ _ (.tup [.str "choice", .str "rows", .ref d5]) e6
      have k4 := (@same_new _ _ (.lst [.ref d2, .ref d4]) e5).trans k5
      have k3 := (@same_new _ _ (.tup [.str "more", .ref d3]) e4).trans k4
      have k2 := (@same_new _ _ (.lst [.str "list", .str "rows"]) e3).trans k3
      have k1 := (@same_new _ _ (.tup [.str "none", .ref d1]) e2).trans k2
      exact ⟨.tup upd_same (.cons (.str _) (.cons (.str _) (.cons (.lst (k5 _ _ upd_same) (.cons (.tup (k2 _ _ upd_same) (.cons (.str _) (.cons (.lst (k1 _ _ upd_same) .nil) .nil))) (.cons (.tup (k4 _ _ upd_same) (.cons (.str _) (.cons (.lst (k3 _ _ upd_same) (.cons (.str _) (.cons (.str _) .nil))) .nil))) .nil))) .nil))), (@same_new _ _ (.lst []) e1).trans k1⟩
    generalize upd (upd (upd (upd (upd (upd H2 d1 (.lst [])) d2 (.tup [.str "none", .ref d1])) d3 (.lst [.str "list", .str "rows"])) d4 (.tup [.str "more", .ref d3])) d5 (.lst [.ref d2, .ref d4])) d6 (.tup [.str "choice", .str "rows", .ref d5]) = H3 at f6 ⊢
    obtain ⟨f6, s23⟩ := f6
    refine ⟨(show 2 ≤ sizeLine by decide), fun lk nk => ?_⟩
    have s34 := @same_new _ _ (.lst [.ref a6, .ref d6]) nk
    have hlk : upd H3 lk (.lst [.ref a6, .ref d6]) lk = some (.lst [.ref a6, .ref d6]) := upd_same
    generalize upd H3 lk (.lst [.ref a6, .ref d6]) = H4 at s34 hlk ⊢
    have dF : DTs H4 [.ref a6, .ref d6] fixL := .cons (c6.same (s23.trans s34) _) (.cons (f6.same s34 _) .nil)
    have inL : ("rows" : Str) ∈ nmsOf (rowsOf fixL) ∧ ("list" : Str) ∈ nmsOf (rowsOf fixL) := by rw [fix_rows]; exact ⟨by decide +kernel, by decide +kernel⟩
    have okS : ∀ zs : List Str, fit [10] (.list (zs.map .str)) = true → OKd (.list (zs.map .str)) := fun zs h => (fits_of _ (by decide) _ h).ok (by decide)
    have ok1 := okS ["nil", "cons", "none", "more"] (by decide +kernel)
    have ok2 := okS ["nil", "cons"] (by decide +kernel)
    refine ⟨_, rfl, ⟨_, _, _, _, rfl, .lst hlk dF, .str "rows", .inl fix_ok, .inr ⟨_, rfl, fix_F, .inr ⟨_, rfl, inL.1, fun p5 b5 H5 s5 np5 hb5 hp5 => ?_⟩⟩⟩⟩
    rw [(fix_b hb5).1 rfl] at hp5
    refine ⟨(show 4 ≤ sizeLine by decide), fun l6 n6 => ?_⟩
    have s56 := @same_new _ _ (.lst [.str "nil", .str "cons", .str "none", .str "more"]) n6
    refine ⟨_, _, dp_ok (.lst (s56 _ _ hp5) (strs_dt _)) ok1, dp_ok (.lst upd_same (strs_dt ["nil", "cons", "none", "more"])) ok1, ok1.shaped, ok1.shaped, _, rfl, ?_⟩
    rw [eqv_ok ok1]
    refine iteT ?_
    have s46 := s5.trans s56
    generalize upd H5 l6 (.lst [.str "nil", .str "cons", .str "none", .str "more"]) = H6 at s46 ⊢
    refine ⟨_, rfl, ⟨_, _, _, _, rfl, .lst (s46 _ _ hlk) (dF.same s46 _), .str "list", .inl fix_ok, .inr ⟨_, rfl, fix_F, .inr ⟨_, rfl, inL.2, fun p7 b7 H7 s7 np7 hb7 hp7 => ?_⟩⟩⟩⟩
    rw [(fix_b hb7).2 rfl] at hp7
    refine ⟨(show 2 ≤ sizeLine by decide), fun l8 n8 => ?_⟩
    have s78 := @same_new _ _ (.lst [.str "nil", .str "cons"]) n8
    refine ⟨_, _, dp_ok (.lst (s78 _ _ hp7) (strs_dt _)) ok2, dp_ok (.lst upd_same (strs_dt ["nil", "cons"])) ok2, ok2.shaped, ok2.shaped, ?_⟩
    rw [eqv_ok ok2]
    exact q _

end
end Cb
set_option Elab.async false
set_option linter.all false
set_option maxRecDepth 100000
set_option maxHeartbeats 4000000
namespace Cb
open PySem PySem.Spec PyProof.Rows L2
/-! ### a written dict of texts -/
inductive KeysAre : List DictEntry → List Str → Prop
  | nil : KeysAre [] []
  | cons {e : DictEntry} {t : Tok} {z : Str} {es : List DictEntry} {zs : List Str} : e.key = .str z t → e.refKey = false → KeysAre es zs → KeysAre (e :: es) (z :: zs)
theorem KeysAre.none {es : List DictEntry} {zs : List Str} (k : KeysAre es zs) : es.any (·.refKey) = false := by
  induction k with
  | nil => rfl
  | cons _ h2 _ ih => rw [List.any_cons, h2, ih]; rfl
theorem KeysAre.find {es : List DictEntry} {zs : List Str} (k : KeysAre es zs) (y : Str) : (es.find? (·.key.isStr y)).isSome = decide (y ∈ zs) := by
  induction k with
  | nil => rfl
  | @cons e t z es zs h1 h2 _ ih =>
    rw [List.find?_cons]
    have e1 : e.key.isStr y = (z == y) := by rw [h1]; rfl
    rw [e1]
    cases h : z == y with
    | true =>
      have := eq_of_beq h
      subst this
      simp
    | false =>
      have ne : ¬ y = z := fun x => by
        rw [x] at h
        simp at h
      rw [ih]
      simp [ne]
theorem num_mk {K : PySem.W.Frag} {mg : Str → Option Value} {h : Heap} {x : Str} {i : Int} {t : Tok} (X : K.In h) (G : h.Ns mainGlobals mg) (e : PySem.W.nsIn K mainGlobals x = some (some (.int i t))) : ∃ t : Tok, mg x = some (.int i t) := ⟨t, PySem.W.mg_of X G e⟩
theorem res_mk {K : PySem.W.Frag} {d : Addr} {c : Value} {od : Option Addr} {es : Array DictEntry} {n : Nat} {sl : Array (Option Value)} (l : K.lookup d = some ⟨c, od, .dict es n, sl⟩) (k : KeysAre es.toList resL) : ∀ z : Str, ∃ r : Option Value, PySem.W.nsIn K d z = some r ∧ r.isSome = isRes z := by
  intro z
  have f := k.find z
  have a := k.none
  unfold PySem.W.nsIn isRes
  rw [l]
  show ∃ r, (match es.toList.find? (·.key.isStr z) with | some e => some (some e.val) | none => if es.toList.any (·.refKey) then none else some none) = some r ∧ _
  cases h : es.toList.find? (·.key.isStr z) with
  | some e =>
    rw [h] at f
    exact ⟨_, rfl, f⟩
  | none =>
    rw [h] at f
    refine ⟨none, ?_, f⟩
    show (if es.toList.any (·.refKey) then none else some none) = some none
    rw [a]
    rfl
section
open ExS
variable {w : World} {K : PySem.W.Frag} {mg : Str → Option Value} {CL CK CB : Addr}
theorem ends {l : PySem.W.OpenLaw} {fa : Addr} (hfa : mg "law" = some (.ref fa)) (T : TLaw l.prog K w mg CL CK CB) (dl : Has K mg "law" s_law ["_law_script"]) :
    ∃ fd : FuncData, (∀ (s : Shared) (u : Value), BindsTo s fd ⟨[u], []⟩ [("_law_script", u)]) ∧ ∀ base : Heap, K.In base → base.Ns mainGlobals mg → FnG l.prog w K mg base CX0 12 fa fd ["_law_script"] (sp_law K) := by
  obtain ⟨f, fd, F, hm, _⟩ := dl
  obtain rfl : f = fa := Value.ref.inj (Option.some.inj (hm.symm.trans hfa))
  refine ⟨fd, ?_, fun base _ _ => c_law T F⟩
  obtain ⟨oc, od, kV, doc, pm, an, cdv, ct, osl, rfl, lk, hcd⟩ := F.ex
  exact fun s u => .of_eq rfl
end
end Cb
set_option Elab.async false
set_option maxRecDepth 100000
open PySem PySem.W PyProof.Rows
set_option maxHeartbeats 0 in
theorem PySem.Challenge.cw_cellbills_k05_whole_constructors_reached_holds : PySem.Challenge.rw_cellbills_k05_whole_constructors_reached.Holds := by
  w_on; o_law; k_head; (case hw => w_witness2)
  k_fill
  refine Cb.walk_g (l := PySem.Challenge.rw_cellbills_k05_whole_constructors_reached) (n := 63) (k := 12) (x := "_law_script") (sp := fun K => Cb.sp_law K) rfl (by decide) rfl ⟨rfl, by decide, by decide⟩ (fun w h Y => PySem.W.kIn_of Y) ?F ?pr
  case pr => exact fun K H a ns _ _ hS => ⟨a, ns, rfl, hS, fun _ => rfl⟩
  case F =>
    intro w mg fa h KX G hmg
    refine' Cb.ends hmg ?T ?dl
    case dl =>
      refine' Cb.has KX G ?a ?l ?c ?k ?b
      (case a => k_is); (case l => k_is); (case c => k_is); (case k => k_is); (case b => exact fun _ _ _ _ _ _ us hl => match us, hl with | [_], _ => rfl)
    case T =>
      refine' ⟨⟨⟨⟨⟨?tk, ?te, ?e1, ?e2, ?e3, ?e4, ?e5, ?e6⟩, ⟨?tk2, ?tg, ?dk⟩, ?e7⟩, ?e8, ?rp⟩, ?e9⟩⟩
      case e1 =>
        refine' Cb.has KX G ?a ?l ?c ?k ?b
        (case a => k_is); (case l => k_is); (case c => k_is); (case k => k_is); (case b => exact fun _ _ _ _ _ _ us hl => match us, hl with | [_], _ => rfl)
      case e2 =>
        refine' Cb.has KX G ?a ?l ?c ?k ?b
        (case a => k_is); (case l => k_is); (case c => k_is); (case k => k_is); (case b => exact fun _ _ _ _ _ _ us hl => match us, hl with | [_, _], _ => rfl)
      case e3 =>
        refine' Cb.has2 KX G ?a ?l ?c ?k ?b (Cb.kb2 ?kb)
        (case a => k_is); (case l => k_is); (case c => k_is); (case k => k_is); (case b => exact fun _ _ _ _ _ _ us hl => match us, hl with | [_, _], _ => rfl); (case kb => exact fun _ _ => rfl)
      case e4 =>
        refine' Cb.has KX G ?a ?l ?c ?k ?b
        (case a => k_is); (case l => k_is); (case c => k_is); (case k => k_is); (case b => exact fun _ _ _ _ _ _ us hl => match us, hl with | [_, _], _ => rfl)
      case e5 =>
        refine' Cb.has KX G ?a ?l ?c ?k ?b
        (case a => k_is); (case l => k_is); (case c => k_is); (case k => k_is); (case b => exact fun _ _ _ _ _ _ us hl => match us, hl with | [_, _], _ => rfl)
      case e6 =>
        refine' Cb.has2 KX G ?a ?l ?c ?k ?b (Cb.kb2 ?kb)
        (case a => k_is); (case l => k_is); (case c => k_is); (case k => k_is); (case b => exact fun _ _ _ _ _ _ us hl => match us, hl with | [_, _], _ => rfl); (case kb => exact fun _ _ => rfl)
      case e7 =>
        refine' Cb.has KX G ?a ?l ?c ?k ?b
        (case a => k_is); (case l => k_is); (case c => k_is); (case k => k_is); (case b => exact fun _ _ _ _ _ _ us hl => match us, hl with | [_, _], _ => rfl)
      case e8 =>
        refine' Cb.has KX G ?a ?l ?c ?k ?b
        (case a => k_is); (case l => k_is); (case c => k_is); (case k => k_is); (case b => exact fun _ _ _ _ _ _ us hl => match us, hl with | [_, _, _], _ => rfl)
      case rp => refine' PySem.W.mg_none_of KX G ?z; (case z => k_is)
      case e9 =>
        refine' Cb.has KX G ?a ?l ?c ?k ?b
        (case a => k_is); (case l => k_is); (case c => k_is); (case k => k_is); (case b => exact fun _ _ _ _ _ _ us hl => match us, hl with | [_], _ => rfl)
      case dk =>
        refine' Cb.has KX G ?a ?l ?c ?k ?b
        (case a => k_is); (case l => k_is); (case c => k_is); (case k => k_is); (case b => exact fun _ _ _ _ _ _ us hl => match us, hl with | [_], _ => rfl)
      case te =>
        refine' ⟨?bL, ?bK, ?gB, ?exm, ?ec, ?own, ?other⟩
        case bL =>
          refine' Cb.bill_mk KX G ?a ?cls ?ve ?iC ?tf ?lI ?coI ?lcI ?vI2 ?feI ?ceI ?clC ?iB ?lB ?coB ?lcB ?vB2 ?feB ?ceB ?clD ?tp ?sB ?sC ?iV ?sV ?fn ?mv ?md ?sa ?nV ?ln ?ln2 ?hI ?hB ?lT ?bI ?bI0 ?bIk ?bB ?ns ?su ?kC ?exC ?tyC
          case a => k_is
          case cls => k_is
          case ve => decide +kernel
          case iC => k_is
          case tf => k_is
          case lI => k_is
          case coI => k_is
          case lcI => k_is
          case vI2 => exact rfl
          case feI => decide +kernel
          case ceI => k_is
          case clC => k_is
          case iB => ks_is
          case lB => k_is
          case coB => k_is
          case lcB => k_is
          case vB2 => exact rfl
          case feB => decide +kernel
          case ceB => k_is
          case clD => k_is
          case tp => k_is
          case sB => k_is
          case sC => k_is
          case iV => ks_is
          case sV => k_is
          case fn => k_is
          case mv => decide +kernel
          case md => exact rfl
          case sa => k_is
          case nV => k_is
          case ln => exact fun _ => rfl
          case ln2 => exact fun _ => rfl
          case hI => exact rfl
          case hB => exact rfl
          case lT => k_is
          case bI => exact fun _ _ => ⟨_, rfl, rfl⟩
          case bI0 => exact fun _ => ⟨_, rfl, rfl⟩
          case bIk => exact fun _ _ => ⟨_, rfl, rfl⟩
          case bB => exact fun _ => rfl
          case ns => show _ = _; decide +kernel
          case su => k_is
          case kC => k_is
          case exC => k_is
          case tyC => k_is
        case bK =>
          refine' Cb.bill_mk KX G ?a ?cls ?ve ?iC ?tf ?lI ?coI ?lcI ?vI2 ?feI ?ceI ?clC ?iB ?lB ?coB ?lcB ?vB2 ?feB ?ceB ?clD ?tp ?sB ?sC ?iV ?sV ?fn ?mv ?md ?sa ?nV ?ln ?ln2 ?hI ?hB ?lT ?bI ?bI0 ?bIk ?bB ?ns ?su ?kC ?exC ?tyC
          case a => k_is
          case cls => k_is
          case ve => decide +kernel
          case iC => k_is
          case tf => k_is
          case lI => k_is
          case coI => k_is
          case lcI => k_is
          case vI2 => exact rfl
          case feI => decide +kernel
          case ceI => k_is
          case clC => k_is
          case iB => ks_is
          case lB => k_is
          case coB => k_is
          case lcB => k_is
          case vB2 => exact rfl
          case feB => decide +kernel
          case ceB => k_is
          case clD => k_is
          case tp => k_is
          case sB => k_is
          case sC => k_is
          case iV => ks_is
          case sV => k_is
          case fn => k_is
          case mv => decide +kernel
          case md => exact rfl
          case sa => k_is
          case nV => k_is
          case ln => exact fun _ => rfl
          case ln2 => exact fun _ => rfl
          case hI => exact rfl
          case hB => exact rfl
          case lT => k_is
          case bI => exact fun _ _ => ⟨_, rfl, rfl⟩
          case bI0 => exact fun _ => ⟨_, rfl, rfl⟩
          case bIk => exact fun _ _ => ⟨_, rfl, rfl⟩
          case bB => exact fun _ => rfl
          case ns => show _ = _; decide +kernel
          case su => k_is
          case kC => k_is
          case exC => k_is
          case tyC => k_is
        case gB => refine' PySem.W.mg_of KX G ?z; (case z => k_is)
        case exm =>
          intro C hC
          rcases List.mem_cons.mp hC with rfl | hC
          · (refine' PySem.W.exm_ref ?a ?b ?c ?d; (case a => k_is); (case b => k_is); (case c => k_is); (case d => k_is))
          rcases List.mem_cons.mp hC with rfl | hC
          · (refine' PySem.W.exm_ref ?a ?b ?c ?d; (case a => k_is); (case b => k_is); (case c => k_is); (case d => k_is))
          cases hC
        case ec =>
          intro C hC
          rcases List.mem_cons.mp hC with rfl | hC
          · (refine' ⟨⟨?a1, ?a2, ?a3, ?a4, ?a5, ?a6, ?a7, ?a8⟩, ⟨?b1, ?b2, ?b3, ?b4⟩, ?c1⟩; (case a1 => k_is); (case a2 => k_is); (case a3 => k_is); (case a4 => k_is); (case a5 => k_is); (case a6 => k_is); (case a7 => k_is); (case a8 => k_is); (case b1 => k_is); (case b2 => k_is); (case b3 => k_is); (case b4 => k_is); (case c1 => k_is))
          rcases List.mem_cons.mp hC with rfl | hC
          · (refine' ⟨⟨?a1, ?a2, ?a3, ?a4, ?a5, ?a6, ?a7, ?a8⟩, ⟨?b1, ?b2, ?b3, ?b4⟩, ?c1⟩; (case a1 => k_is); (case a2 => k_is); (case a3 => k_is); (case a4 => k_is); (case a5 => k_is); (case a6 => k_is); (case a7 => k_is); (case a8 => k_is); (case b1 => k_is); (case b2 => k_is); (case b3 => k_is); (case b4 => k_is); (case c1 => k_is))
          cases hC
        case own =>
          intro C hC
          rcases List.mem_cons.mp hC with rfl | hC
          · exact Cb.kit_self rfl
          rcases List.mem_cons.mp hC with rfl | hC
          · exact Cb.kit_self rfl
          cases hC
        case other =>
          refine' ⟨?o1, ?o2⟩
          case o1 => (refine' Cb.kit_ref ?a ?b ?c ?d; (case a => rfl); (case b => k_is); (case c => k_is); (case d => k_is))
          case o2 => (refine' Cb.kit_ref ?a ?b ?c ?d; (case a => rfl); (case b => k_is); (case c => k_is); (case d => k_is))
      case tg =>
        refine' ⟨?a1, ?a2, ?a3, ?a4, ?z1, ?z2, ?z3, ?z4, ?z5⟩
        case a1 =>
          refine' Cb.has KX G ?a ?l ?c ?k ?b
          (case a => k_is); (case l => k_is); (case c => k_is); (case k => k_is); (case b => exact fun _ _ _ _ _ _ us hl => match us, hl with | [_, _], _ => rfl)
        case a2 =>
          refine' Cb.has KX G ?a ?l ?c ?k ?b
          (case a => k_is); (case l => k_is); (case c => k_is); (case k => k_is); (case b => exact fun _ _ _ _ _ _ us hl => match us, hl with | [_, _], _ => rfl)
        case a3 =>
          refine' Cb.has KX G ?a ?l ?c ?k ?b
          (case a => k_is); (case l => k_is); (case c => k_is); (case k => k_is); (case b => exact fun _ _ _ _ _ _ us hl => match us, hl with | [_, _], _ => rfl)
        case a4 =>
          refine' Cb.has KX G ?a ?l ?c ?k ?b
          (case a => k_is); (case l => k_is); (case c => k_is); (case k => k_is); (case b => exact fun _ _ _ _ _ _ us hl => match us, hl with | [_, _], _ => rfl)
        case z1 => refine' PySem.W.mg_none_of KX G ?z; (case z => k_is)
        case z2 => refine' PySem.W.mg_none_of KX G ?z; (case z => k_is)
        case z3 => refine' PySem.W.mg_none_of KX G ?z; (case z => k_is)
        case z4 => refine' PySem.W.mg_none_of KX G ?z; (case z => k_is)
        case z5 => refine' PySem.W.mg_none_of KX G ?z; (case z => k_is)
      case tk =>
        refine' ⟨?tw, ?d0, ?d1, ?d2, ?d3, ?d4, ?d5, ?d6, ?d7, ?d8, ?d9, ?kk, ?en, ?g1, ?g2, ?g3⟩
        case d0 =>
          refine' Cb.has KX G ?a ?l ?c ?k ?b
          (case a => k_is); (case l => k_is); (case c => k_is); (case k => k_is); (case b => exact fun _ _ _ _ _ _ us hl => match us, hl with | [_], _ => rfl)
        case d1 =>
          refine' Cb.has KX G ?a ?l ?c ?k ?b
          (case a => k_is); (case l => k_is); (case c => k_is); (case k => k_is); (case b => exact fun _ _ _ _ _ _ us hl => match us, hl with | [_], _ => rfl)
        case d2 =>
          refine' Cb.has KX G ?a ?l ?c ?k ?b
          (case a => k_is); (case l => k_is); (case c => k_is); (case k => k_is); (case b => exact fun _ _ _ _ _ _ us hl => match us, hl with | [_], _ => rfl)
        case d3 =>
          refine' Cb.has KX G ?a ?l ?c ?k ?b
          (case a => k_is); (case l => k_is); (case c => k_is); (case k => k_is); (case b => exact fun _ _ _ _ _ _ us hl => match us, hl with | [_], _ => rfl)
        case d4 =>
          refine' Cb.has KX G ?a ?l ?c ?k ?b
          (case a => k_is); (case l => k_is); (case c => k_is); (case k => k_is); (case b => exact fun _ _ _ _ _ _ us hl => match us, hl with | [_], _ => rfl)
        case d5 =>
          refine' Cb.has KX G ?a ?l ?c ?k ?b
          (case a => k_is); (case l => k_is); (case c => k_is); (case k => k_is); (case b => exact fun _ _ _ _ _ _ us hl => match us, hl with | [_], _ => rfl)
        case d6 =>
          refine' Cb.has KX G ?a ?l ?c ?k ?b
          (case a => k_is); (case l => k_is); (case c => k_is); (case k => k_is); (case b => exact fun _ _ _ _ _ _ us hl => match us, hl with | [_], _ => rfl)
        case d7 =>
          refine' Cb.has KX G ?a ?l ?c ?k ?b
          (case a => k_is); (case l => k_is); (case c => k_is); (case k => k_is); (case b => exact fun _ _ _ _ _ _ us hl => match us, hl with | [_, _, _], _ => rfl)
        case d8 =>
          refine' Cb.has KX G ?a ?l ?c ?k ?b
          (case a => k_is); (case l => k_is); (case c => k_is); (case k => k_is); (case b => exact fun _ _ _ _ _ _ us hl => match us, hl with | [_], _ => rfl)
        case d9 =>
          refine' Cb.has KX G ?a ?l ?c ?k ?b
          (case a => k_is); (case l => k_is); (case c => k_is); (case k => k_is); (case b => exact fun _ _ _ _ _ _ us hl => match us, hl with | [_], _ => rfl)
        case kk =>
          refine' Cb.hasK KX G ?a ?l ?c ?k (Cb.kb1 ?b)
          (case a => k_is); (case l => k_is); (case c => k_is); (case k => k_is); (case b => exact fun _ => rfl)
        case en => refine' PySem.W.mg_none_of KX G ?z; (case z => k_is)
        case g1 => refine' Cb.num_mk KX G ?e; (case e => k_is)
        case g2 => refine' Cb.num_mk KX G ?e; (case e => k_is)
        case g3 => refine' Cb.num_mk KX G ?e; (case e => k_is)
        case tw =>
          refine' ⟨?c1, ?c2, ?c3, ?c4, ?c5, ?y1, ?y2, ?y3, ?y4, ?y5, ?y6, ?m1, ?rs⟩
          case c1 =>
            refine' Cb.has KX G ?a ?l ?c ?k ?b
            (case a => k_is); (case l => k_is); (case c => k_is); (case k => k_is); (case b => exact fun _ _ _ _ _ _ us hl => match us, hl with | [_], _ => rfl)
          case c2 =>
            refine' Cb.has KX G ?a ?l ?c ?k ?b
            (case a => k_is); (case l => k_is); (case c => k_is); (case k => k_is); (case b => exact fun _ _ _ _ _ _ us hl => match us, hl with | [_], _ => rfl)
          case c3 =>
            refine' Cb.has KX G ?a ?l ?c ?k ?b
            (case a => k_is); (case l => k_is); (case c => k_is); (case k => k_is); (case b => exact fun _ _ _ _ _ _ us hl => match us, hl with | [_], _ => rfl)
          case c4 =>
            refine' Cb.has KX G ?a ?l ?c ?k ?b
            (case a => k_is); (case l => k_is); (case c => k_is); (case k => k_is); (case b => exact fun _ _ _ _ _ _ us hl => match us, hl with | [_], _ => rfl)
          case c5 =>
            refine' Cb.has KX G ?a ?l ?c ?k ?b
            (case a => k_is); (case l => k_is); (case c => k_is); (case k => k_is); (case b => exact fun _ _ _ _ _ _ us hl => match us, hl with | [_], _ => rfl)
          case y1 => refine' PySem.W.mg_none_of KX G ?z; (case z => k_is)
          case y2 => refine' PySem.W.mg_none_of KX G ?z; (case z => k_is)
          case y3 => refine' PySem.W.mg_none_of KX G ?z; (case z => k_is)
          case y4 => refine' PySem.W.mg_none_of KX G ?z; (case z => k_is)
          case y5 => refine' PySem.W.mg_none_of KX G ?z; (case z => k_is)
          case y6 => refine' PySem.W.mg_none_of KX G ?z; (case z => k_is)
          case m1 => refine' Cb.num_mk KX G ?e; (case e => k_is)
          case rs =>
            refine' ⟨_, _, _, PySem.W.mg_of KX G ?z, ⟨?at_, ?lit, ?low⟩, ?s⟩
            (case z => k_is); (case at_ => k_is)
            case lit => exact ⟨⟨_, _, rfl, rfl⟩, ⟨_, _, rfl, rfl⟩, ⟨_, _, rfl, rfl⟩, ⟨_, _, rfl, rfl⟩, ⟨_, _, rfl, rfl⟩, ⟨_, _, rfl, rfl⟩, ⟨_, _, rfl, rfl⟩, ⟨_, _, rfl, rfl⟩, ⟨_, _, rfl, rfl⟩, ⟨_, _, rfl, rfl⟩, ⟨_, _, rfl, rfl⟩, ⟨_, _, rfl, rfl⟩, ⟨_, _, rfl, rfl⟩, ⟨_, _, rfl, rfl⟩, ⟨_, _, rfl, rfl⟩, ⟨_, _, rfl, rfl⟩, ⟨_, _, rfl, rfl⟩, ⟨_, _, rfl, rfl⟩, ⟨_, _, rfl, rfl⟩, ⟨_, _, rfl, rfl⟩, ⟨_, _, rfl, rfl⟩, ⟨_, _, rfl, rfl⟩, ⟨_, _, rfl, rfl⟩, ⟨_, _, rfl, rfl⟩, ⟨_, _, rfl, rfl⟩, trivial⟩
            case low => rfl
            case s =>
              refine' Cb.res_mk ?l ?k
              (case l => k_is)
              case k => exact .cons rfl rfl (.cons rfl rfl (.cons rfl rfl (.cons rfl rfl (.cons rfl rfl (.cons rfl rfl (.cons rfl rfl (.cons rfl rfl (.cons rfl rfl (.cons rfl rfl (.cons rfl rfl (.cons rfl rfl (.cons rfl rfl (.cons rfl rfl (.cons rfl rfl (.cons rfl rfl (.cons rfl rfl (.cons rfl rfl (.cons rfl rfl (.cons rfl rfl (.cons rfl rfl (.cons rfl rfl (.cons rfl rfl (.cons rfl rfl (.cons rfl rfl (.nil)))))))))))))))))))))))))
      case tk2 =>
        refine' ⟨?tw, ?d0, ?d1, ?d2, ?d3, ?d4, ?d5, ?d6, ?d7, ?d8, ?d9, ?kk, ?en, ?g1, ?g2, ?g3⟩
        case d0 =>
          refine' Cb.has KX G ?a ?l ?c ?k ?b
          (case a => k_is); (case l => k_is); (case c => k_is); (case k => k_is); (case b => exact fun _ _ _ _ _ _ us hl => match us, hl with | [_], _ => rfl)
        case d1 =>
          refine' Cb.has KX G ?a ?l ?c ?k ?b
          (case a => k_is); (case l => k_is); (case c => k_is); (case k => k_is); (case b => exact fun _ _ _ _ _ _ us hl => match us, hl with | [_], _ => rfl)
        case d2 =>
          refine' Cb.has KX G ?a ?l ?c ?k ?b
          (case a => k_is); (case l => k_is); (case c => k_is); (case k => k_is); (case b => exact fun _ _ _ _ _ _ us hl => match us, hl with | [_], _ => rfl)
        case d3 =>
          refine' Cb.has KX G ?a ?l ?c ?k ?b
          (case a => k_is); (case l => k_is); (case c => k_is); (case k => k_is); (case b => exact fun _ _ _ _ _ _ us hl => match us, hl with | [_], _ => rfl)
        case d4 =>
          refine' Cb.has KX G ?a ?l ?c ?k ?b
          (case a => k_is); (case l => k_is); (case c => k_is); (case k => k_is); (case b => exact fun _ _ _ _ _ _ us hl => match us, hl with | [_], _ => rfl)
        case d5 =>
          refine' Cb.has KX G ?a ?l ?c ?k ?b
          (case a => k_is); (case l => k_is); (case c => k_is); (case k => k_is); (case b => exact fun _ _ _ _ _ _ us hl => match us, hl with | [_], _ => rfl)
        case d6 =>
          refine' Cb.has KX G ?a ?l ?c ?k ?b
          (case a => k_is); (case l => k_is); (case c => k_is); (case k => k_is); (case b => exact fun _ _ _ _ _ _ us hl => match us, hl with | [_], _ => rfl)
        case d7 =>
          refine' Cb.has KX G ?a ?l ?c ?k ?b
          (case a => k_is); (case l => k_is); (case c => k_is); (case k => k_is); (case b => exact fun _ _ _ _ _ _ us hl => match us, hl with | [_, _, _], _ => rfl)
        case d8 =>
          refine' Cb.has KX G ?a ?l ?c ?k ?b
          (case a => k_is); (case l => k_is); (case c => k_is); (case k => k_is); (case b => exact fun _ _ _ _ _ _ us hl => match us, hl with | [_], _ => rfl)
        case d9 =>
          refine' Cb.has KX G ?a ?l ?c ?k ?b
          (case a => k_is); (case l => k_is); (case c => k_is); (case k => k_is); (case b => exact fun _ _ _ _ _ _ us hl => match us, hl with | [_], _ => rfl)
        case kk =>
          refine' Cb.hasK KX G ?a ?l ?c ?k (Cb.kb1 ?b)
          (case a => k_is); (case l => k_is); (case c => k_is); (case k => k_is); (case b => exact fun _ => rfl)
        case en => refine' PySem.W.mg_none_of KX G ?z; (case z => k_is)
        case g1 => refine' Cb.num_mk KX G ?e; (case e => k_is)
        case g2 => refine' Cb.num_mk KX G ?e; (case e => k_is)
        case g3 => refine' Cb.num_mk KX G ?e; (case e => k_is)
        case tw =>
          refine' ⟨?c1, ?c2, ?c3, ?c4, ?c5, ?y1, ?y2, ?y3, ?y4, ?y5, ?y6, ?m1, ?rs⟩
          case c1 =>
            refine' Cb.has KX G ?a ?l ?c ?k ?b
            (case a => k_is); (case l => k_is); (case c => k_is); (case k => k_is); (case b => exact fun _ _ _ _ _ _ us hl => match us, hl with | [_], _ => rfl)
          case c2 =>
            refine' Cb.has KX G ?a ?l ?c ?k ?b
            (case a => k_is); (case l => k_is); (case c => k_is); (case k => k_is); (case b => exact fun _ _ _ _ _ _ us hl => match us, hl with | [_], _ => rfl)
          case c3 =>
            refine' Cb.has KX G ?a ?l ?c ?k ?b
            (case a => k_is); (case l => k_is); (case c => k_is); (case k => k_is); (case b => exact fun _ _ _ _ _ _ us hl => match us, hl with | [_], _ => rfl)
          case c4 =>
            refine' Cb.has KX G ?a ?l ?c ?k ?b
            (case a => k_is); (case l => k_is); (case c => k_is); (case k => k_is); (case b => exact fun _ _ _ _ _ _ us hl => match us, hl with | [_], _ => rfl)
          case c5 =>
            refine' Cb.has KX G ?a ?l ?c ?k ?b
            (case a => k_is); (case l => k_is); (case c => k_is); (case k => k_is); (case b => exact fun _ _ _ _ _ _ us hl => match us, hl with | [_], _ => rfl)
          case y1 => refine' PySem.W.mg_none_of KX G ?z; (case z => k_is)
          case y2 => refine' PySem.W.mg_none_of KX G ?z; (case z => k_is)
          case y3 => refine' PySem.W.mg_none_of KX G ?z; (case z => k_is)
          case y4 => refine' PySem.W.mg_none_of KX G ?z; (case z => k_is)
          case y5 => refine' PySem.W.mg_none_of KX G ?z; (case z => k_is)
          case y6 => refine' PySem.W.mg_none_of KX G ?z; (case z => k_is)
          case m1 => refine' Cb.num_mk KX G ?e; (case e => k_is)
          case rs =>
            refine' ⟨_, _, _, PySem.W.mg_of KX G ?z, ⟨?at_, ?lit, ?low⟩, ?s⟩
            (case z => k_is); (case at_ => k_is)
            case lit => exact ⟨⟨_, _, rfl, rfl⟩, ⟨_, _, rfl, rfl⟩, ⟨_, _, rfl, rfl⟩, ⟨_, _, rfl, rfl⟩, ⟨_, _, rfl, rfl⟩, ⟨_, _, rfl, rfl⟩, ⟨_, _, rfl, rfl⟩, ⟨_, _, rfl, rfl⟩, ⟨_, _, rfl, rfl⟩, ⟨_, _, rfl, rfl⟩, ⟨_, _, rfl, rfl⟩, ⟨_, _, rfl, rfl⟩, ⟨_, _, rfl, rfl⟩, ⟨_, _, rfl, rfl⟩, ⟨_, _, rfl, rfl⟩, ⟨_, _, rfl, rfl⟩, ⟨_, _, rfl, rfl⟩, ⟨_, _, rfl, rfl⟩, ⟨_, _, rfl, rfl⟩, ⟨_, _, rfl, rfl⟩, ⟨_, _, rfl, rfl⟩, ⟨_, _, rfl, rfl⟩, ⟨_, _, rfl, rfl⟩, ⟨_, _, rfl, rfl⟩, ⟨_, _, rfl, rfl⟩, trivial⟩
            case low => rfl
            case s =>
              refine' Cb.res_mk ?l ?k
              (case l => k_is)
              case k => exact .cons rfl rfl (.cons rfl rfl (.cons rfl rfl (.cons rfl rfl (.cons rfl rfl (.cons rfl rfl (.cons rfl rfl (.cons rfl rfl (.cons rfl rfl (.cons rfl rfl (.cons rfl rfl (.cons rfl rfl (.cons rfl rfl (.cons rfl rfl (.cons rfl rfl (.cons rfl rfl (.cons rfl rfl (.cons rfl rfl (.cons rfl rfl (.cons rfl rfl (.cons rfl rfl (.cons rfl rfl (.cons rfl rfl (.cons rfl rfl (.cons rfl rfl (.nil)))))))))))))))))))))))))
