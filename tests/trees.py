"""Trees of scripts by chance, as a parser makes them."""

RESERVED = ('if', 'then', 'elif', 'else', 'fi', 'while', 'do', 'done', 'for', 'in', 'case', 'esac', '{', '}', '!')
PLAIN = 'abz019_-+.,/:@*?~^[]{}=!2'
QUOTED = 'ab \n"$\\\'#;&|<>()*?=`'
NAMES = ('a', 'x1', '_', 'if', 'REPLY')
SIGNS = ('<', '<=', '>', '>=', '==', '!=', '+', '-', '*', '/', 'mod')


def chance_sum(chance, depth):
    kind = chance.randrange(4) if depth > 0 else 0
    if kind == 0:
        return chance.choice([('int', chance.randrange(100)), ('name', chance.choice(NAMES))])
    if kind == 1:
        return ('neg', chance_sum(chance, depth - 1))
    return ('op', chance.choice(SIGNS), chance_sum(chance, depth - 1), chance_sum(chance, depth - 1))


def chance_part(chance, depth):
    quoted = chance.random() < 0.5
    kind = chance.choice(('text', 'text', 'text', 'name', 'status', 'sum', 'run'))
    if kind == 'text':
        letters = QUOTED if quoted else PLAIN
        return ('text', ''.join(chance.choices(letters, k=chance.randint(0 if quoted else 1, 3))), quoted)
    if kind == 'name':
        return ('name', chance.choice(NAMES + ('1', '9', '#')), quoted)
    if kind == 'sum':
        return ('sum', chance_sum(chance, 2), quoted)
    if kind == 'run' and depth > 0:
        return ('run', chance_list(chance, depth - 1), quoted)
    return ('status', quoted)


def tidy(parts):
    """Return parts with neighbouring texts of one sort made one, and without empty quotes that do not stay."""
    parts = joined(parts)
    is_needed = not any(part[-1] and part != ('text', '', True) for part in parts)
    kept = [part for place, part in enumerate(parts) if part != ('text', '', True) or is_needed
            or place + 1 < len(parts) and parts[place + 1][0] == 'text' and parts[place + 1][1].startswith('#')
            and not parts[place + 1][2]]
    return tuple(joined(kept))


def joined(parts):
    found = []
    for part in parts:
        if found and found[-1][0] == part[0] == 'text' and found[-1][2] == part[2]:
            found[-1] = ('text', found[-1][1] + part[1], part[2])
        else:
            found.append(part)
    return found


def chance_word(chance, depth):
    if chance.random() < 0.4:
        return (('text', chance.choice(('a', 'bc', '-l', '2', 'x=1') + RESERVED), False),)
    parts = tidy([chance_part(chance, depth) for _ in range(chance.randint(1, 4))])
    return parts if parts else (('text', 'w', False),)


def chance_redirects(chance, depth):
    many = chance.choice((0, 0, 0, 1, 2))
    return tuple((chance.choice(('<', '>', '>>', '2>')), chance_word(chance, depth)) for _ in range(many))


def is_assignment(word):
    kind, text, quoted = word[0] if word[0][0] == 'text' else ('', '', True)
    name, sign, _ = text.partition('=')
    return not quoted and sign == '=' and name.isidentifier()


def chance_simple(chance, depth):
    assignments = tuple((chance.choice(NAMES), chance.choice([(), chance_word(chance, depth)]))
                        for _ in range(chance.choice((0, 0, 1, 2))))
    words = [chance_word(chance, depth) for _ in range(chance.randint(0, 3))]
    redirects = chance_redirects(chance, depth)
    while words and is_assignment(words[0]):
        words.pop(0)
    is_reserved = bool(words) and len(words[0]) == 1 and words[0][0][0] == 'text' and words[0][0][1:] in [
        (name, False) for name in RESERVED]
    if is_reserved and not assignments and not redirects or not words and not assignments and not redirects:
        words = [(('text', 'c', False),)]
    return ('simple', assignments, tuple(words), redirects)


def chance_command(chance, depth):
    kind = chance.choice(('simple', 'simple', 'group', 'shell', 'if', 'while', 'for', 'case', 'define')) if depth > 0 else 'simple'
    if kind == 'simple':
        return chance_simple(chance, depth)
    body = chance_list(chance, depth - 1)
    if kind in ('group', 'shell'):
        return (kind, body, chance_redirects(chance, depth - 1))
    if kind == 'if':
        return chance_if(chance, depth - 1)
    if kind == 'while':
        return ('while', body, chance_list(chance, depth - 1))
    if kind == 'for':
        return ('for', chance.choice(NAMES), tuple(chance_word(chance, depth - 1) for _ in range(chance.randint(0, 3))), body)
    if kind == 'define':
        return ('define', chance.choice(('f', 'g_1', 'echo')), body)
    rows = tuple((tuple(chance_word(chance, depth - 1) for _ in range(chance.randint(1, 2))), chance_list(chance, depth - 1))
                 for _ in range(chance.randint(0, 2)))
    return ('case', chance_word(chance, depth - 1), rows)


def chance_if(chance, depth):
    other = chance.choice((None, 'if', 'list'))
    if other is not None:
        other = chance_if(chance, depth) if other == 'if' else chance_list(chance, depth)
    return ('if', chance_list(chance, depth), chance_list(chance, depth), other)


def chance_pipeline(chance, depth):
    nodes = tuple(chance_command(chance, depth) for _ in range(chance.choice((1, 1, 1, 2, 3))))
    node = nodes[0] if len(nodes) == 1 else ('pipe', nodes)
    return ('not', node) if chance.random() < 0.15 else node


def chance_chain(chance, depth):
    node = chance_pipeline(chance, depth)
    for _ in range(chance.choice((0, 0, 0, 1, 2))):
        node = (chance.choice(('and', 'or')), node, chance_pipeline(chance, depth))
    return node


def chance_list(chance, depth):
    nodes = []
    for _ in range(chance.choice((1, 1, 2, 3))):
        node = chance_chain(chance, depth)
        nodes.append(('back', node) if chance.random() < 0.15 else node)
    return ('list', tuple(nodes))
